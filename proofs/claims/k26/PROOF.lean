import PyProof.Rows.All
import Wide.All
import OpenK.AllK
import Wide.FinOn
import KE.KTryMore
import PyProof.NsDelKeeps
import PyProof.ListRange
import PyProof.Draws
import PyProof.EnumMake
import KE.KUnpack
import KE.KLam
import KE.KRevIter
import KE.KDictOf
import PyProof.AttrMissSeq
import KE.KDictList
import KE.LcSums
import KE.KSortTup
import KE.KIntText
import PyProof.StrLawsTight
import PyProof.StrLawsChain
import PyProof.Rows.StrItems
import PyProof.NeKinds
import PyProof.Rows.SetFrom
import PyProof.DictFindH
import Lean
import PyProof.EqAt
import PyProof.EqKinds
import PyProof.TupleCall
import PyProof.ListStr
import KE.KRevSl
import PyProof.Rows.Range3
import PySem.Challenge.RW_spreadwords_k26_whole_put_together_and_c
set_option Elab.async false
set_option linter.all false
set_option maxRecDepth 100000
set_option maxHeartbeats 4000000
namespace L2
open PySem PySem.Spec PyProof.Rows
abbrev Key:=Sum Int Str
def keyIs:Key→Value→Bool
 | .inl k,v=>Value.isInt k v
 | .inr x,v=>Value.isStrOf x v
def keyH (w:World):Key→Int
 | .inl k=>hashInt k
 | .inr x=>hashStr w x
theorem keyIs_shape:∀ {k:Key} {v:Value},keyIs k v=true→(∃ i t,k=Sum.inl i∧v=Value.int i t)∨(∃ x t,k=Sum.inr x∧v=Value.str x t)
 | .inl i,v,h=>by
  obtain ⟨t,e⟩:=Value.isInt_shape (k:=i) (v:=v) h
  exact .inl ⟨i,t,rfl,e⟩
 | .inr x,v,h=>by
  obtain ⟨t,e⟩:=Value.isStrOf_shape (x:=x) (v:=v) h
  exact .inr ⟨x,t,rfl,e⟩
theorem keyIs_int (i:Int) (t:Tok):keyIs (.inl i) (.int i t)=true:=by simp [keyIs,Value.isInt]
theorem keyIs_str (x:Str) (t:Tok):keyIs (.inr x) (.str x t)=true:=by simp [keyIs,Value.isStrOf]
theorem key_ll (a b:Int):decide ((Sum.inl a:Key)=Sum.inl b)=(a==b):=by
 by_cases e:a=b
 ·subst e; simp
 ·have h:¬ (Sum.inl a:Key)=Sum.inl b:=fun q=>e (Sum.inl.inj q)
  rw [decide_eq_false h]
  exact (beq_eq_false_iff_ne.mpr e).symm
theorem key_rr (a b:Str):decide ((Sum.inr a:Key)=Sum.inr b)=decide (a=b):=by
 by_cases e:a=b
 ·subst e; simp
 ·have h:¬ (Sum.inr a:Key)=Sum.inr b:=fun q=>e (Sum.inr.inj q)
  rw [decide_eq_false h,decide_eq_false e]
theorem key_lr (a:Int) (b:Str):decide ((Sum.inl a:Key)=Sum.inr b)=false:=decide_eq_false (fun q=>nomatch q)
theorem key_rl (a:Str) (b:Int):decide ((Sum.inr a:Key)=Sum.inl b)=false:=decide_eq_false (fun q=>nomatch q)
def mixKind (prog:Program) (w:World):PySem.KeyKind prog w Key where
 is:=keyIs
 hash:=keyH w
 inj:=fun v a b ha hb=>by
  rcases keyIs_shape ha with ⟨i,t,rfl,rfl⟩ | ⟨x,t,rfl,rfl⟩
  ·rcases keyIs_shape hb with ⟨j,u,rfl,e⟩ | ⟨y,u,rfl,e⟩
   ·injection e with e1 _; rw [e1]
   ·exact nomatch e
  ·rcases keyIs_shape hb with ⟨j,u,rfl,e⟩ | ⟨y,u,rfl,e⟩
   ·exact nomatch e
   ·injection e with e1 _; rw [e1]
 byValue:=fun k v h=>by
  rcases keyIs_shape h with ⟨i,t,rfl,rfl⟩ | ⟨x,t,rfl,rfl⟩ <;> rfl
 pyHash:=fun hv h=>by
  rcases keyIs_shape hv with ⟨i,t,rfl,rfl⟩ | ⟨x,t,rfl,rfl⟩
  ·exact wpAny_pyHash_int h
  ·exact wpAny_pyHash_str h
 eqBool:=fun hu hv h=>by
  rcases keyIs_shape hu with ⟨i,t,rfl,rfl⟩ | ⟨x,t,rfl,rfl⟩
  ·rcases keyIs_shape hv with ⟨j,u,rfl,rfl⟩ | ⟨y,u,rfl,rfl⟩
   ·rw [key_ll] at h; exact wpAny_eqBool_int h
   ·rw [key_lr] at h; exact SeqAt.EqAt.int_str i t y u _ _ _ _ h
  ·rcases keyIs_shape hv with ⟨j,u,rfl,rfl⟩ | ⟨y,u,rfl,rfl⟩
   ·rw [key_rl] at h; exact SeqAt.EqAt.str_int x t j u _ _ _ _ h
   ·rw [key_rr] at h; exact wpAny_eqBool_str h
 «strs»:=fun k x t v h=>by
  rcases keyIs_shape h with ⟨i,u,rfl,e⟩ | ⟨y,u,rfl,e⟩
  ·exact nomatch e
  ·injection e with e1 _
   subst e1
   cases v <;> rfl
theorem mixKind_int (prog:Program) (w:World) (i:Int) (t:Tok):(mixKind prog w).is (.inl i) (.int i t)=true:=keyIs_int i t
theorem mixKind_str (prog:Program) (w:World) (x:Str) (t:Tok):(mixKind prog w).is (.inr x) (.str x t)=true:=keyIs_str x t
end L2
namespace L2
open PySem PySem.Spec PyProof.Rows
inductive V where
 | non | bl (b:Bool) | int (i:Int) | str (x:Str) | byt (b:Array UInt8) | flt (b:UInt64) | ref (a:Addr) | ty (n:String)
 deriving DecidableEq
def RelV:V→Value→Prop
 | .non,u=>u=Value.none
 | .bl b,u=>u=Value.bool b
 | .int i,u=>∃ t,u=Value.int i t
 | .str x,u=>∃ t,u=Value.str x t
 | .byt b,u=>∃ t,u=Value.bytes b t
 | .flt b,u=>∃ t,u=Value.float b t
 | .ref a,u=>u=Value.ref a
 | .ty n,u=>u=Value.type n
abbrev Vals:List V→List Value→Prop:=Paired RelV
theorem Vals.length {xs:List V} {us:List Value} (r:Vals xs us):xs.length=us.length:=Paired.length r
theorem Vals.get:∀ {xs:List V} {us:List Value} {i:Nat} {x:V},Vals xs us→xs[i]? = some x→∃ u,us[i]? = some u∧RelV x u
 | _,_,_,_,.nil,e=>by simp at e
 | _,_,0,_,.cons r _,e=>by simp at e; subst e; exact ⟨_,rfl,r⟩
 | _,_,i+1,x,.cons _ t,e=>by
  obtain ⟨u,h1,h2⟩:=Vals.get (i:=i) (x:=x) t (by simpa using e)
  exact ⟨u,by simpa using h1,h2⟩
theorem Vals.set {x:V} {u:Value} (r:RelV x u):∀ {xs:List V} {us:List Value} (i:Nat),Vals xs us→Vals (xs.set i x) (us.set i u)
 | _,_,_,.nil=>.nil
 | _,_,0,.cons _ t=>.cons r t
 | _,_,i+1,.cons q t=>.cons q (Vals.set r i t)
theorem Vals.append:∀ {xs ys:List V} {us ws:List Value},Vals xs us→Vals ys ws→Vals (xs ++ ys) (us ++ ws)
 | _,_,_,_,.nil,s=>s
 | _,_,_,_,.cons r t,s=>.cons r (Vals.append t s)
theorem Vals.take:∀ {xs:List V} {us:List Value} (n:Nat),Vals xs us→Vals (xs.take n) (us.take n)
 | _,_,0,_=>.nil
 | _,_,_+1,.nil=>.nil
 | _,_,n+1,.cons r t=>.cons r (Vals.take n t)
theorem Vals.drop:∀ {xs:List V} {us:List Value} (n:Nat),Vals xs us→Vals (xs.drop n) (us.drop n)
 | _,_,0,r=>r
 | _,_,_+1,.nil=>.nil
 | _,_,n+1,.cons _ t=>Vals.drop n t
def RelO:Option V→Option Value→Prop
 | some v,some u=>RelV v u
 | none,none=>True
 | _,_=>False
def KV {κ:Type}:List (κ × V)→List (κ × Value)→Prop:=Paired fun (p:κ × V) (q:κ × Value)=>p.1=q.1∧RelV p.2 q.2
def kV:Key→V
 | .inl i=>.int i
 | .inr x=>.str x
inductive HO where
  | lst (xs:List V)
  | tup (xs:List V)
  | dK (kvs:List (Key × V)) | dT (kvs:List (List Key × V))
  | set (S:Int→Bool) (n:Nat)
  | ins (C dx:Addr) (fs:List (Str × V))
  | own (x:Addr)
  | xd (fs:List (Str × V))
  | met (f x:Addr)
  | rng (lo hi:Int)
  | frz (o:Obj) (u:HO)
  | tbl (ps:Array Value)
  | ext (φ:Heap→Prop)
abbrev Hp:=Addr→Option HO
def upd (H:Hp) (a:Addr) (o:HO):Hp:=fun b=>if b=a then some o else H b
theorem upd_same {H:Hp} {a:Addr} {o:HO}:upd H a o a=some o:=by unfold upd; rw [if_pos rfl]
theorem upd_ne {H:Hp} {a b:Addr} {o:HO} (h:b≠a):upd H a o b=H b:=by unfold upd; rw [if_neg h]
theorem upd_upd {H:Hp} {a:Addr} {o u:HO}:upd (upd H a o) a u=upd H a u:=by
 funext b; unfold upd; split <;> rfl
theorem ne_of {H:Hp} {a b:Addr} {o u:HO} (h:H a=some o) (h':H b=some u) (d:o≠u):a≠b:=by
 intro e; subst e; rw [h] at h'; exact d (Option.some.inj h')
theorem ne_of_none {H:Hp} {a b:Addr} {o:HO} (h:H a=some o) (h':H b=none):a≠b:=by
 intro e; subst e; rw [h] at h'; cases h'
section
variable (P:Program) (w:World)
def ObjOk (H:Hp) (h:Heap) (a:Addr):HO→Prop
 | .lst xs=>xs.length≤sizeLine∧∃ (its:List Value) (n:Nat),Vals xs its∧h.get? a=some { cls:=.type "list",data:=.seq its.toArray n }
 | .tup xs=>xs.length≤sizeLine∧∃ its:List Value,Vals xs its∧IsTup h a its.toArray
 | .dK kvs=>kvs.length≤sizeLine∧(a==sysModules)=false∧∃ vs,KV kvs vs∧h.DictOf (mixKind P w) a vs
 | .dT kvs=>kvs.length≤sizeLine∧(a==sysModules)=false∧∃ xs:List (List Key × Addr × Value),
   Paired (fun (p:List Key × V) (q:List Key × Addr × Value)=>p.1=q.1∧H q.2.1=some (.tup (p.1.map kV))∧RelV p.2 q.2.2) kvs xs∧
   ∃ o es ep,h.get? a=some o∧o.ExactDict∧o.data=.dict es ep∧es.toList=xs.map (entryOfKey (tupleKind (mixKind P w)))∧(xs.map (·.1)).Nodup
 | .set S n=>h.SetOf (intKind P w) a S n
 | .ins C dx fs=>H dx=some (.own a)∧fs.length≤1000∧dx≠a∧h.get? a=some (PySem.W.instObj C dx)∧
   ∃ mA,h.Ns1 dx mA∧(∀ f,RelO (fs.lookup f) (mA f))∧PySem.Within mA (fs.map (·.1))
 | .own _=>∃ o,h.get? a=some o
 | .xd fs=>∃ mA,h.Ns1 a mA∧∀ f,RelO (fs.lookup f) (mA f)
 | .rng lo hi=>∃ t u v,h.get? a=some { cls:=.type "range",data:=.fields #[.int lo t,.int hi u,.int 1 v] }
 | .frz o u=>h.get? a=some o∧ObjOk H h a u
 | .tbl ps=>h.get? a=some { cls:=.none,data:=.fields ps }
 | .met f x=>h.get? a=some (PySem.W.methodObj (.ref f) (.ref x))
 | .ext φ=>φ h∧(∃ o,h.get? a=some o)∧∀ h1 h2:Heap,φ h1→(∀ o,h1.get? a=some o→h2.get? a=some o)→φ h2
def HOk (H:Hp) (h:Heap):Prop:=∀ a o,H a=some o→ObjOk P w H h a o
end
section
variable {P:Program} {w:World} {H H':Hp} {h h':Heap} {a:Addr} {o:HO}
theorem ObjOk.lt (x:ObjOk P w H h a o):a < h.objs.size:=by
 cases o with
 | lst xs=>obtain ⟨_,_,_,_,e⟩:=x; exact Heap.lt_size e
 | tup xs=>obtain ⟨_,_,_,p⟩:=x; exact p.lt
 | dK kvs=>obtain ⟨_,_,_,_,o,_,_,e,_⟩:=x; exact Heap.lt_size e
 | dT kvs=>obtain ⟨_,_,_,_,o,_,_,e,_⟩:=x; exact Heap.lt_size e
 | set S n=>obtain ⟨o,_,_,_,e,_⟩:=x; exact Heap.lt_size e
 | ins C dx fs=>obtain ⟨_,_,_,e,_⟩:=x; exact Heap.lt_size e
 | own y=>obtain ⟨_,e⟩:=x; exact Heap.lt_size e
 | xd fs=>obtain ⟨_,⟨_,_,_,e,_⟩,_⟩:=x; exact Heap.lt_size e
 | rng lo hi=>obtain ⟨_,_,_,e⟩:=x; exact Heap.lt_size e
 | frz ob u=>obtain ⟨e,_⟩:=x; exact Heap.lt_size e
 | tbl ps=>exact Heap.lt_size (show h.get? a=some _ from x)
 | met f y=>exact Heap.lt_size (show h.get? a=some _ from x)
 | ext φ=>obtain ⟨_,⟨_,e⟩,_⟩:=x; exact Heap.lt_size e
theorem Paired.mapP {α β:Type} {F G:α→β→Prop}:∀ {l₁:List α} {l₂:List β},Paired F l₁ l₂→(∀ a b,F a b→G a b)→Paired G l₁ l₂
 | _,_,.nil,_=>.nil
 | _,_,.cons r t,f=>.cons (f _ _ r) (Paired.mapP t f)
theorem ObjOk.stay (x:ObjOk P w H h a o) (k:∀ b u,(b=a∨H b=some (.own a))→h.get? b=some u→h'.get? b=some u)
  (ho:∀ b,H b=some (.own a)→H' b=some (.own a)) (ht:∀ b xs,H b=some (.tup xs)→H' b=some (.tup xs)):ObjOk P w H' h' a o:=by
 induction o with
 | lst xs=>obtain ⟨z,its,n,r,e⟩:=x; exact ⟨z,its,n,r,k _ _ (.inl rfl) e⟩
 | tup xs=>obtain ⟨z,its,r,ob,e,c⟩:=x; exact ⟨z,its,r,ob,k _ _ (.inl rfl) e,c⟩
 | dK kvs=>obtain ⟨z,y,vs,r,ob,es,ep,e,c⟩:=x; exact ⟨z,y,vs,r,ob,es,ep,k _ _ (.inl rfl) e,c⟩
 | dT kvs=>
  obtain ⟨z,y,xs,r,ob,es,ep,e,c⟩:=x
  exact ⟨z,y,xs,Paired.mapP r fun p q z=>⟨z.1,ht _ _ z.2.1,z.2.2⟩,ob,es,ep,k _ _ (.inl rfl) e,c⟩
 | set S n=>obtain ⟨ob,es,ep,t,e,c⟩:=x; exact ⟨ob,es,ep,t,k _ _ (.inl rfl) e,c⟩
 | ins C dx fs=>
  obtain ⟨d,z,ne,e,mA,⟨od,es,ep,e2,c⟩,r⟩:=x
  exact ⟨ho _ d,z,ne,k _ _ (.inl rfl) e,mA,⟨od,es,ep,k _ _ (.inr d) e2,c⟩,r⟩
 | own y=>obtain ⟨ob,e⟩:=x; exact ⟨ob,k _ _ (.inl rfl) e⟩
 | xd fs=>obtain ⟨mA,⟨od,es,ep,e,c⟩,r⟩:=x; exact ⟨mA,⟨od,es,ep,k _ _ (.inl rfl) e,c⟩,r⟩
 | rng lo hi=>obtain ⟨t,u,v,e⟩:=x; exact ⟨t,u,v,k _ _ (.inl rfl) e⟩
 | frz ob u ih=>obtain ⟨e,q⟩:=x; exact ⟨k _ _ (.inl rfl) e,ih q⟩
 | tbl ps=>
  have e:h.get? a=some { cls:=.none,data:=.fields ps }:=x
  show h'.get? a=some { cls:=.none,data:=.fields ps }
  exact k a _ (.inl rfl) e
 | met f y=>
  have e:h.get? a=some (PySem.W.methodObj (.ref f) (.ref y)):=x
  show h'.get? a=some (PySem.W.methodObj (.ref f) (.ref y))
  exact k a _ (.inl rfl) e
 | ext φ=>obtain ⟨p,⟨o,e⟩,st⟩:=x; exact ⟨st _ _ p fun o q=>k _ _ (.inl rfl) q,⟨o,k _ _ (.inl rfl) e⟩,st⟩
theorem HOk.lt (x:HOk P w H h) (e:H a=some o):a < h.objs.size:=(x a o e).lt
theorem HOk.fresh (x:HOk P w H h) (e:h.objs.size≤a):H a=none:=by
 cases q:H a with
 | none=>rfl
 | some u=>exact absurd (Nat.lt_of_lt_of_le (x.lt q) e) (Nat.lt_irrefl _)
theorem HOk.kept (x:HOk P w H h) (k:∀ b u,h.get? b=some u→h'.get? b=some u):HOk P w H h':=fun a o e=>
 (x a o e).stay (fun b u _ q=>k b u q) (fun _ q=>q) fun _ _ q=>q
theorem HOk.laid (x:HOk P w H h) (k:∀ b u,h.get? b=some u→h'.get? b=some u) (hp:h.objs.size≤a) (new:ObjOk P w (upd H a o) h' a o):HOk P w (upd H a o) h':=fun b u e=>by
 have hn:=x.fresh hp
 by_cases hb:b=a
 ·subst hb; rw [upd_same] at e; cases e; exact new
 ·rw [upd_ne hb] at e
  exact (x b u e).stay (fun c v _ q=>k c v q) (fun c q=>by rw [upd_ne (ne_of_none q hn)]; exact q) fun c xs q=>by rw [upd_ne (ne_of_none q hn)]; exact q
end
def Rd (H:Hp) (a:Addr) (u:HO):Prop:=H a=some u∨∃ o,H a=some (.frz o u)
theorem Rd.ok {P:Program} {w:World} {H:Hp} {h:Heap} {a:Addr} {u:HO} (r:Rd H a u) (x:HOk P w H h):ObjOk P w H h a u:=by
 rcases r with r | ⟨o,r⟩
 ·exact x a u r
 ·obtain ⟨_,q⟩:=x a _ r
  exact q
def Mut:Option HO→Prop
 | some (.lst _)=>True
 | some (.dK _)=>True
 | some (.dT _)=>True
 | some (.set _ _)=>True
 | some (.ins _ _ _)=>True
 | some (.ext _)=>True
 | _=>False
section
variable {P:Program} {w:World} {H:Hp} {h h':Heap} {x e:Addr} {o':HO}
theorem HOk.write (ok:HOk P w H h) (mu:Mut (H x)) (he:e=x∨H e=some (.own x)) (k:∀ b u,b≠e→h.get? b=some u→h'.get? b=some u) (heo:∃ u,h'.get? e=some u)
  (new:ObjOk P w (upd H x o') h' x o'):HOk P w (upd H x o') h':=fun b u q=>by
 have nown:∀ c y,H c=some (.own y)→c≠x:=fun c y r z=>by subst z; rw [r] at mu; exact mu
 have ntup:∀ c xs,H c=some (.tup xs)→c≠x:=fun c xs r z=>by subst z; rw [r] at mu; exact mu
 by_cases hb:b=x
 ·subst hb; rw [upd_same] at q; cases q; exact new
 ·rw [upd_ne hb] at q
  by_cases hbe:b=e
  ·have q':H b=some (.own x):=by
    rcases he with z | z
    ·exact absurd (hbe.trans z) hb
    ·rw [hbe]; exact z
   rw [q] at q'; cases q'
   obtain ⟨v,hv⟩:=heo
   exact ⟨v,by rw [hbe]; exact hv⟩
  ·refine (ok b u q).stay (fun c v hc r=>k c v ?_ r) (fun c r=>by rw [upd_ne (nown c b r)]; exact r) fun c xs r=>by rw [upd_ne (ntup c xs r)]; exact r
   rcases hc with rfl | hc
   ·exact hbe
   ·rintro rfl
    rcases he with z | z
    ·exact nown c b hc z
    ·rw [hc] at z; cases z; exact hb rfl
end
structure Un (fs ex:List Addr) (H H':Hp) (h h':Heap):Prop where
 keep:∀ b o,h.get? b=some o→H b=none→b∉fs→b∉ex→h'.get? b=some o
 slot:∀ b o,h.get? b=some o→H b=none→b∈fs→b∉ex→∃ sl,h'.get? b=some { o with slots:=sl }
 free:∀ b o,h.get? b=some o→H b=none→b∉ex→H' b=none
 there:∀ b o,h.get? b=some o→b∉ex→∃ o',h'.get? b=some o'
 tups:∀ b xs,H b=some (.tup xs)→H' b=some (.tup xs)
 frzs:∀ b o u,H b=some (.frz o u)→H' b=some (.frz o u)
 tbls:∀ b ps,H b=some (.tbl ps)→∃ more,H' b=some (.tbl (ps ++ more))
section
variable {fs fs' ex ex':List Addr} {H H1 H2:Hp} {h h1 h2 h':Heap} {a x e:Addr} {o:HO}
theorem Un.any (u:Un fs ex H H1 h h1) {b:Addr} {ob:Obj} (q:h.get? b=some ob) (n:H b=none) (hx:b∉ex):∃ sl,h1.get? b=some { ob with slots:=sl }:=by
 by_cases hb:b∈fs
 ·exact u.slot b ob q n hb hx
 ·exact ⟨ob.slots,u.keep b ob q n hb hx⟩
theorem Un.kept (k:∀ b u,h.get? b=some u→h'.get? b=some u):Un fs ex H H h h':=
 ⟨fun b ob q _ _ _=>k b ob q,fun b ob q _ _ _=>⟨ob.slots,k b ob q⟩,fun _ _ _ n _=>n,fun b ob q _=>⟨ob,k b ob q⟩,fun _ _ q=>q,fun _ _ _ q=>q,fun _ ps q=>⟨#[],by rw [q]; simp⟩⟩
theorem Un.refl:Un fs ex H H h h:=Un.kept fun _ _ q=>q
theorem Un.laid (k:∀ b u,h.get? b=some u→h'.get? b=some u) (hp:h.objs.size≤a) (hn:H a=none):Un fs ex H (upd H a o) h h' where
 keep:=fun b u q _ _ _=>k b u q
 slot:=fun b u q _ _ _=>⟨u.slots,k b u q⟩
 free:=fun b u q n _=>by rw [upd_ne (Nat.ne_of_lt (Nat.lt_of_lt_of_le (Heap.lt_size q) hp))]; exact n
 there:=fun b u q _=>⟨u,k b u q⟩
 tups:=fun b xs q=>by rw [upd_ne (ne_of_none q hn)]; exact q
 frzs:=fun b u xs q=>by rw [upd_ne (ne_of_none q hn)]; exact q
 tbls:=fun b ps q=>⟨#[],by rw [upd_ne (ne_of_none q hn),q]; simp⟩
theorem Un.write (mu:Mut (H x)) (he:e=x∨H e=some (.own x)) (k:∀ b u,b≠e→h.get? b=some u→h'.get? b=some u) (heo:∃ u,h'.get? e=some u):Un fs ex H (upd H x o) h h':=by
 have hx:∀ b,H b=none→b≠x:=fun b n z=>by subst z; rw [n] at mu; exact mu
 have hb:∀ b,H b=none→b≠e:=fun b n z=>by
  subst z
  rcases he with r | r
  ·exact hx b n r
  ·rw [n] at r; cases r
 have hm:∀ b u,H b=some u→¬ Mut (some u)→b≠x:=fun b u q nm z=>by subst z; rw [q] at mu; exact nm mu
 refine ⟨fun b u q n _ _=>k b u (hb b n) q,fun b u q n _ _=>⟨u.slots,k b u (hb b n) q⟩,fun b u q n _=>by rw [upd_ne (hx b n)]; exact n,fun b u q _=>?_,
  fun b xs q=>by rw [upd_ne (hm b _ q fun z=>z)]; exact q,fun b u xs q=>by rw [upd_ne (hm b _ q fun z=>z)]; exact q,fun b ps q=>⟨#[],by rw [upd_ne (hm b _ q fun z=>z),q]; simp⟩⟩
 by_cases hbe:b=e
 ·subst hbe; exact heo
 ·exact ⟨u,k b u hbe q⟩
end
def trk (h:Heap) (H:Hp):List Addr:=(List.range h.objs.size).filter fun a=>(H a).isSome
def hidT (h:Heap) (H:Hp):Heap:=PySem.W.hideAll h (trk h H)
theorem hidT_size (h:Heap) (H:Hp):(hidT h H).objs.size=h.objs.size:=PySem.W.hideAll_size _ _
theorem hidT_get {h:Heap} {H:Hp} {b:Addr} {o:Obj} (e:h.get? b=some o) (n:H b=none):(hidT h H).get? b=some o:=
 PySem.W.hideAll_get _ e fun hm=>by
  have q:(H b).isSome=true:=(List.mem_filter.mp hm).2
  rw [n] at q; simp at q
theorem of_hidT {h:Heap} {H:Hp} {b:Addr} {o:Obj} (e:(hidT h H).get? b=some o):h.get? b=some o∧H b=none:=by
 have e':h.get? b=some o:=PySem.W.of_hideAll (trk h H) e
 refine ⟨e',?_⟩
 cases q:H b with
 | none=>rfl
 | some x=>
  have hm:b∈trk h H:=List.mem_filter.mpr ⟨List.mem_range.mpr (Heap.lt_size e'),by simp [q]⟩
  have z:(hidT h H).get? b=none:=PySem.W.hideAll_none (trk h H) hm
  rw [z] at e; cases e
def allNews (g h:Heap) (L:Addr):List (Addr × Obj):=(List.range h.objs.size).filterMap fun a=>if a=L∨(g.get? a).isSome=true then none else (h.get? a).map fun o=>(a,o)
def rest (g h:Heap) (L d:Addr):List (Addr × Obj):=(allNews g h L).filter fun p=>decide (p.1≠d)
end L2
namespace L2
open PySem PySem.Spec PyProof.Rows
structure Mod (K:PySem.W.Frag) (mg:Str→Option Value) (base:Heap):Prop where
 kin:K.In base
 glob:base.Ns mainGlobals mg
 blt:∃ mb,base.Ns builtinsNs mb∧∀ x:Str,x≠"__name__"→mb x=bootBuiltins x
 nolimit:base.NoLimit
structure Cx where
 prog:Program
 w:World
 K:PySem.W.Frag
 mg:Str→Option Value
 base:Heap
 A:Around
 N:List Str
 s₀:Shared
 H₀:Hp
 env:Env
 outer:List Env
 stack:List Env
 ex:List Addr
 fn:Str→Bool
 calm:Bool
 pn:List (Addr × Obj)
 xe:Value→Shared→Prop
def frs (l:List Env):List Addr:=l.filterMap (·.frame)
abbrev Cx.fs (X:Cx):List Addr:=frs X.outer
def Vis (sc:Scope) (x:Str):Prop:=sc.names.lookup x=some .local∨sc.names.lookup x=some .cell∨sc.names.lookup x=some .free
def Loc (sc:Scope) (x:Str):Prop:=sc.names.lookup x=some .local∨sc.names.lookup x=some .cell
def Look (env:Env) (h:Heap) (m:Str→Option Value) (x:Str) (u:Value):Prop:=
 (env.kindOf x=some .local∧m x=some u)∨((env.kindOf x=some .cell∨env.kindOf x=some .free)∧∃ c,env.cells.lookup x=some c∧h.IsCell c (some u))
structure Cx.Ok (X:Cx):Prop where
 mod:Mod X.K X.mg X.base
 kind:X.env.scope.kind=.function
 glob:X.env.globals=mainGlobals
 blt:X.env.builtins=builtinsNs
 above:X.s₀.heap.objs.size≤X.env.locals
 inj:∀ x y c,X.env.cells.lookup x=some c→X.env.cells.lookup y=some c→x=y
 has:∀ x,(X.env.kindOf x=some .cell∨X.env.kindOf x=some .free)→∃ c,X.env.cells.lookup x=some c
 cab:∀ x c,X.fn x=true→X.env.cells.lookup x=some c→X.s₀.heap.objs.size≤c
 hd:X.calm=true→X.A.handled=none
 frames:X.A.frames=some X.stack
 stk:X.stack=X.outer∨(X.stack=X.env :: X.outer∧X.env.frame=some X.env.locals)
 exf:∀ b∈X.ex,b≠X.env.locals∧∀ x c,X.env.cells.lookup x=some c→c≠b
 bs:∀ b o,X.base.get? b=some o→X.s₀.heap.get? b=some o∧X.H₀ b=none
 bsz:X.base.objs.size≤X.s₀.heap.objs.size
 noex:∀ b o,X.base.get? b=some o→b∉X.ex
 exfs:∀ b∈X.ex,b∉X.fs
 funs:X.s₀.heap.FunFrames X.base X.outer
 frf:∀ b∈X.fs,X.H₀ b=none
structure Inv (X:Cx) (pins:List (Addr × Obj)) (σ:List (Option V)) (H:Hp) (s:Shared):Prop where
 ok:X.Ok
 os:s.os=X.s₀.os
 bare:AllBare s.gens
 base:Un X.fs X.ex X.H₀ H X.s₀.heap s.heap
 loc:∃ m,s.heap.Ns X.env.locals m∧∀ (i:Nat) (x:Str) (v:V),X.N[i]? = some x→σ[i]? = some (some v)→Vis X.env.scope x→∃ u,RelV v u∧Look X.env s.heap m x u
 cell:∀ x c,X.env.cells.lookup x=some c→∃ v,s.heap.IsCell c v
 free:H X.env.locals=none
 freeC:∀ x c,X.env.cells.lookup x=some c→H c=none
 pin:∀ p∈X.pn ++ pins,s.heap.get? p.1=some p.2∧H p.1=none∧p.1≠X.env.locals∧p.1∉X.fs∧∀ v,p.2.data≠.cell v
 hok:HOk X.prog X.w H s.heap
 len:σ.length=X.N.length
section
variable {X:Cx} {pins:List (Addr × Obj)} {σ:List (Option V)} {H H':Hp} {s:Shared} {h':Heap}
theorem Cx.Ok.nofr (ok:X.Ok) {b:Addr} {o:Obj} (e:X.base.get? b=some o):b∉X.fs:=fun hb=>by
 have:=(ok.funs.mem hb).1
 rw [e] at this; cases this
theorem Inv.bs (I:Inv X pins σ H s):∀ b o,X.base.get? b=some o→s.heap.get? b=some o∧H b=none:=fun b o e=>
 ⟨I.base.keep b o (I.ok.bs b o e).1 (I.ok.bs b o e).2 (I.ok.nofr e) (I.ok.noex b o e),I.base.free b o (I.ok.bs b o e).1 (I.ok.bs b o e).2 (I.ok.noex b o e)⟩
theorem Inv.bk (I:Inv X pins σ H s):∀ b o,X.base.get? b=some o→s.heap.get? b=some o:=fun b o e=>(I.bs b o e).1
theorem Inv.mod (I:Inv X pins σ H s):Mod X.K X.mg X.base:=I.ok.mod
theorem Inv.kIn (I:Inv X pins σ H s):X.K.In s.heap:=I.ok.mod.kin.keeps I.bk
theorem Inv.lt (I:Inv X pins σ H s):X.env.locals < s.heap.objs.size:=let ⟨_,hn,_⟩:=I.loc; hn.lt
theorem Inv.sz (I:Inv X pins σ H s):X.s₀.heap.objs.size≤s.heap.objs.size:=Nat.le_trans I.ok.above (Nat.le_of_lt I.lt)
theorem Inv.nofs (I:Inv X pins σ H s) {a:Addr} (h:s.heap.objs.size≤a):a∉X.fs:=fun hb=>by
 obtain ⟨_,o,ho,_⟩:=I.ok.funs.mem hb
 exact absurd (Nat.lt_of_lt_of_le (Heap.lt_size ho) (Nat.le_trans I.sz h)) (Nat.lt_irrefl _)
theorem Inv.cne (I:Inv X pins σ H s):∀ x c,X.env.cells.lookup x=some c→c≠X.env.locals:=fun x c e z=>by
 obtain ⟨v,o,ho,hd⟩:=I.cell x c e
 obtain ⟨m,⟨o',es,ep,ho',hd',_⟩,_⟩:=I.loc
 rw [z,ho'] at ho; cases ho; rw [hd'] at hd; cases hd
theorem Inv.funs (I:Inv X pins σ H s):s.heap.FunFrames X.base X.outer:=by
 have all:∀ (l:List Env),(∀ b∈frs l,b∈X.fs)→X.s₀.heap.FunFrames X.base l→s.heap.FunFrames X.base l:=by
  intro l
  induction l with
  | nil=>intro _ _; trivial
  | cons env r ih=>
   intro hs hl
   obtain ⟨hk,⟨L,o,hf,hn,ho,hd⟩,hr⟩:=hl
   have hL:L∈X.fs:=hs L (by unfold frs; rw [List.filterMap_cons,hf]; exact List.mem_cons_self)
   obtain ⟨sl,e⟩:=I.base.slot L o ho (I.ok.frf L hL) hL fun z=>I.ok.exfs L z hL
   exact ⟨hk,⟨L,_,hf,hn,e,hd⟩,ih (fun b hb=>hs b (by unfold frs; rw [List.filterMap_cons,hf]; exact List.mem_cons_of_mem _ hb)) hr⟩
 exact all X.outer (fun _ hb=>hb) I.ok.funs
theorem Inv.stack (I:Inv X pins σ H s):s.heap.FunFrames X.base X.stack:=by
 rcases I.ok.stk with e | ⟨e,hf⟩
 ·rw [e]; exact I.funs
 ·rw [e]
  obtain ⟨m,hn,_⟩:=I.loc
  refine .cons (by rw [I.ok.kind]; decide) hf hn ?_ I.funs
  exact Heap.get?_none_of_le (Nat.le_trans I.ok.bsz I.ok.above)
theorem Inv.stkSub (I:Inv X pins σ H s):∀ b∈frs X.stack,b∈X.env.locals :: X.fs:=fun b hb=>by
 rcases I.ok.stk with e | ⟨e,hf⟩
 ·rw [e] at hb; exact List.mem_cons_of_mem _ hb
 ·rw [e] at hb
  unfold frs at hb
  rw [List.filterMap_cons,hf] at hb
  exact hb
theorem Inv.stkFree (I:Inv X pins σ H s):∀ b∈frs X.stack,H b=none:=fun b hb=>by
 rcases List.mem_cons.mp (I.stkSub b hb) with e | hb
 ·rw [e]; exact I.free
 ·obtain ⟨_,o,ho,_⟩:=I.ok.funs.mem hb
  exact I.base.free b o ho (I.ok.frf b hb) fun z=>I.ok.exfs b z hb
theorem Inv.step {g':Array GenState} {t':Nat} {d':Drawn} {ch:List Addr} (I:Inv X pins σ H s)
  (hch:∀ b∈ch,(b∈X.ex∨X.s₀.heap.objs.size≤b)∧b≠X.env.locals∧(∀ x c,X.env.cells.lookup x=some c→c≠b)∧∀ p∈X.pn ++ pins,p.1≠b)
  (keep:∀ b o,b≠X.env.locals→b∉X.fs→b∉ch→s.heap.get? b=some o→H b=none→h'.get? b=some o)
  (slot:∀ b o,b≠X.env.locals→b∈X.fs→b∉ch→s.heap.get? b=some o→H b=none→∃ sl,h'.get? b=some { o with slots:=sl }) (free:∀ b o,b∉ch→s.heap.get? b=some o→H b=none→H' b=none)
  (there:∀ b o,b∉ch→s.heap.get? b=some o→∃ o',h'.get? b=some o')
  (tups:∀ b xs,H b=some (.tup xs)→H' b=some (.tup xs)) (frzs:∀ b o u,H b=some (.frz o u)→H' b=some (.frz o u)) (tbls:∀ b ps,H b=some (.tbl ps)→∃ more,H' b=some (.tbl (ps ++ more)))
  (ns:∀ m,s.heap.Ns X.env.locals m→h'.Ns X.env.locals m) (hok:HOk X.prog X.w H' h') (hg:AllBare g') :
  Inv X pins σ H' { s with heap:=h',gens:=g',drawn:=d',toks:=t' }:=by
 have neL:∀ b o,X.s₀.heap.get? b=some o→b≠X.env.locals:=fun b o e=>Nat.ne_of_lt (Nat.lt_of_lt_of_le (Heap.lt_size e) I.ok.above)
 have neC:∀ b o,X.s₀.heap.get? b=some o→b∉X.ex→b∉ch:=fun b o e hx hb=>by
  rcases (hch b hb).1 with z | z
  ·exact hx z
  ·exact absurd (Nat.lt_of_lt_of_le (Heap.lt_size e) z) (Nat.lt_irrefl _)
 have cellK:∀ x c,X.env.cells.lookup x=some c→∀ v,s.heap.IsCell c v→h'.IsCell c v:=fun x c e v ⟨o,ho,hd⟩=>by
  have nch:c∉ch:=fun z=>(hch c z).2.2.1 x c e rfl
  by_cases hc:c∈X.fs
  ·obtain ⟨sl,q⟩:=slot c o (I.cne x c e) hc nch ho (I.freeC x c e)
   exact ⟨_,q,hd⟩
  ·exact ⟨o,keep c o (I.cne x c e) hc nch ho (I.freeC x c e),hd⟩
 refine ⟨I.ok,I.os,hg,⟨fun b o e n hb hx=>?_,fun b o e n hb hx=>?_,fun b o e n hx=>?_,fun b o e hx=>?_,fun b xs e=>tups b xs (I.base.tups b xs e),fun b o xs e=>frzs b o xs (I.base.frzs b o xs e),fun b ps e=>?_⟩,?_,fun x c e=>?_,?_,fun x c e=>?_,fun p hp=>?_,hok,I.len⟩
 ·exact keep b o (neL b o e) hb (neC b o e hx) (I.base.keep b o e n hb hx) (I.base.free b o e n hx)
 ·obtain ⟨sl,e1⟩:=I.base.slot b o e n hb hx
  obtain ⟨sl',e2⟩:=slot b _ (neL b o e) hb (neC b o e hx) e1 (I.base.free b o e n hx)
  exact ⟨sl',e2⟩
 ·obtain ⟨o',e1⟩:=I.base.there b o e hx
  exact free b o' (neC b o e hx) e1 (I.base.free b o e n hx)
 ·obtain ⟨o',e1⟩:=I.base.there b o e hx
  exact there b o' (neC b o e hx) e1
 ·obtain ⟨m1,e1⟩:=I.base.tbls b ps e
  obtain ⟨m2,e2⟩:=tbls b _ e1
  exact ⟨m1 ++ m2,by rw [e2,Array.append_assoc]⟩
 ·obtain ⟨m,hn,hl⟩:=I.loc
  refine ⟨m,ns m hn,fun i x v e1 e2 e3=>?_⟩
  obtain ⟨u,r,l⟩:=hl i x v e1 e2 e3
  refine ⟨u,r,?_⟩
  rcases l with l | ⟨k,c,e,z⟩
  ·exact .inl l
  ·exact .inr ⟨k,c,e,cellK x c e _ z⟩
 ·obtain ⟨v,z⟩:=I.cell x c e
  exact ⟨v,cellK x c e v z⟩
 ·obtain ⟨m,⟨o,_,_,ho,_⟩,_⟩:=I.loc
  exact free _ o (fun z=>(hch _ z).2.1 rfl) ho I.free
 ·obtain ⟨v,o,ho,hd⟩:=I.cell x c e
  exact free c o (fun z=>(hch c z).2.2.1 x c e rfl) ho (I.freeC x c e)
 ·obtain ⟨e,n,ne,nf,d⟩:=I.pin p hp
  have nch:p.1∉ch:=fun z=>(hch p.1 z).2.2.2 p hp rfl
  exact ⟨keep p.1 p.2 ne nf nch e n,free p.1 p.2 nch e n,ne,nf,d⟩
theorem Inv.un {t':Nat} (I:Inv X pins σ H s) (u:Un X.fs [] H H' s.heap h') (hok:HOk X.prog X.w H' h'):Inv X pins σ H' { s with heap:=h',toks:=t' }:=by
 obtain ⟨m,⟨o,es,ep,ho,r⟩,_⟩:=id I.loc
 obtain ⟨sl,hL⟩:=u.any ho I.free (by simp)
 exact I.step (g':=s.gens) (d':=s.drawn) (ch:=[]) (fun _ z=>nomatch z) (fun b o _ hb _ e n=>u.keep b o e n hb (by simp)) (fun b o _ hb _ e n=>u.slot b o e n hb (by simp)) (fun b o _ e n=>u.free b o e n (by simp)) (fun b o _ e=>u.there b o e (by simp)) u.tups u.frzs u.tbls (fun m' hm=>by
  obtain ⟨o',es',ep',ho',r'⟩:=hm
  rw [ho] at ho'; cases ho'
  exact ⟨_,es',ep',hL,r'⟩) hok I.bare
theorem Inv.call {g':Array GenState} {t':Nat} {d':Drawn} {ch:List Addr} (I:Inv X pins σ H s) (u:Un (frs X.stack) ch H H' s.heap h') (hok:HOk X.prog X.w H' h') (hg:AllBare g')
  (hch:∀ b∈ch,(b∈X.ex∨X.s₀.heap.objs.size≤b)∧b≠X.env.locals∧(∀ x c,X.env.cells.lookup x=some c→c≠b)∧∀ p∈X.pn ++ pins,p.1≠b) :
  Inv X pins σ H' { s with heap:=h',gens:=g',drawn:=d',toks:=t' }:=by
 obtain ⟨m,⟨o,es,ep,ho,r⟩,_⟩:=id I.loc
 obtain ⟨sl,hL⟩:=u.any ho I.free fun z=>(hch _ z).2.1 rfl
 exact I.step (ch:=ch) hch (fun b o hL hb hc e n=>u.keep b o e n (fun z=>(List.mem_cons.mp (I.stkSub b z)).elim hL hb) hc) (fun b o _ _ hc e n=>u.any e n hc) (fun b o hc e n=>u.free b o e n hc) (fun b o hc e=>u.there b o e hc) u.tups u.frzs u.tbls (fun m' hm=>by
  obtain ⟨o',es',ep',ho',r'⟩:=hm
  rw [ho] at ho'; cases ho'
  exact ⟨_,es',ep',hL,r'⟩) hok hg
theorem Inv.turned {t':Nat} {it:Addr} (I:Inv X pins σ H s) (k:∀ b o,b≠it→s.heap.get? b=some o→h'.get? b=some o) (hn:H it=none) (hL:it≠X.env.locals)
  (h1:it∈X.ex∨X.s₀.heap.objs.size≤it) (h2:∀ x c,X.env.cells.lookup x=some c→c≠it) (h3:∀ p∈X.pn ++ pins,p.1≠it):Inv X pins σ H { s with heap:=h',toks:=t' }:=by
 have nit:∀ b u,H b=some u→b≠it:=fun b u e z=>by rw [z,hn] at e; cases e
 refine I.step (g':=s.gens) (d':=s.drawn) (ch:=[it]) (fun b hb=>?_) (fun b o _ _ hc e _=>k b o (fun z=>hc (by simp [z])) e) (fun b o _ _ hc e _=>⟨o.slots,k b o (fun z=>hc (by simp [z])) e⟩) (fun _ _ _ _ n=>n)
  (fun b o hc e=>⟨o,k b o (fun z=>hc (by simp [z])) e⟩) (fun _ _ e=>e) (fun _ _ _ e=>e) (fun b ps e=>⟨#[],by rw [e]; simp⟩) (fun m hm=>?_) (fun b u e=>?_) I.bare
 ·have e:b=it:=by simpa using hb
  subst e
  exact ⟨h1,hL,h2,h3⟩
 ·obtain ⟨o,es,ep,ho,r⟩:=hm
  exact ⟨o,es,ep,k _ o (Ne.symm hL) ho,r⟩
 ·refine (I.hok b u e).stay (fun c v hc q=>k c v ?_ q) (fun _ q=>q) fun _ _ q=>q
  rcases hc with z | z
  ·rw [z]; exact nit b u e
  ·exact nit c _ z
theorem Inv.tok (I:Inv X pins σ H s) (t:Nat):Inv X pins σ H { s with toks:=t }:=I.un (h':=s.heap) (t':=t) Un.refl I.hok
theorem Inv.kept {t':Nat} (I:Inv X pins σ H s) (k:∀ b u,s.heap.get? b=some u→h'.get? b=some u):Inv X pins σ H { s with heap:=h',toks:=t' }:=I.un (Un.kept k) (I.hok.kept k)
theorem Inv.laid {a:Addr} {o:HO} {t':Nat} (I:Inv X pins σ H s) (k:∀ b u,s.heap.get? b=some u→h'.get? b=some u) (hp:s.heap.objs.size≤a) (new:ObjOk X.prog X.w (upd H a o) h' a o) :
  Inv X pins σ (upd H a o) { s with heap:=h',toks:=t' }:=I.un (Un.laid k hp (I.hok.fresh hp)) (I.hok.laid k hp new)
theorem Inv.write {x e:Addr} {o:HO} {t':Nat} (I:Inv X pins σ H s) (mu:Mut (H x)) (he:e=x∨H e=some (.own x)) (k:∀ b u,b≠e→s.heap.get? b=some u→h'.get? b=some u) (heo:∃ u,h'.get? e=some u)
  (new:ObjOk X.prog X.w (upd H x o) h' x o):Inv X pins σ (upd H x o) { s with heap:=h',toks:=t' }:=I.un (Un.write mu he k heo) (I.hok.write mu he k heo new)
theorem Inv.weak {σ':List (Option V)} (I:Inv X pins σ H s) (hl:σ'.length=σ.length) (w:∀ (i:Nat) v,σ'[i]? = some (some v)→σ[i]? = some (some v)):Inv X pins σ' H s:=
 ⟨I.ok,I.os,I.bare,I.base,let ⟨m,hn,hl'⟩:=I.loc; ⟨m,hn,fun i x v e1 e2 e3=>hl' i x v e1 (w i v e2) e3⟩,I.cell,I.free,I.freeC,I.pin,I.hok,hl.trans I.len⟩
theorem Inv.pins_of {pins':List (Addr × Obj)} (I:Inv X pins σ H s) (h:∀ p∈pins',s.heap.get? p.1=some p.2∧H p.1=none∧p.1≠X.env.locals∧p.1∉X.fs∧∀ v,p.2.data≠.cell v):Inv X pins' σ H s:=
 ⟨I.ok,I.os,I.bare,I.base,I.loc,I.cell,I.free,I.freeC,fun p hp=>(List.mem_append.mp hp).elim (fun z=>I.pin p (List.mem_append_left _ z)) (h p),I.hok,I.len⟩
theorem nodup_ix {N:List Str} (hN:N.Nodup) {i j:Nat} {x:Str} (a:N[i]? = some x) (b:N[j]? = some x):i=j:=by
 obtain ⟨h1,e1⟩:=List.getElem?_eq_some_iff.mp a
 obtain ⟨h2,e2⟩:=List.getElem?_eq_some_iff.mp b
 exact (List.getElem_inj hN).mp (e1.trans e2.symm)
theorem store_ok2 {M:Model} {A:Around} {E:Value→Shared→Prop} {i:Nat} {x:Str} {v:V} {u:Value} {Q:Unit→Shared→Prop} (I:Inv X pins σ H s) (hN:X.N.Nodup) (hi:X.N[i]? = some x) (hx:Loc X.env.scope x) (r:RelV v u)
  (h:∀ s',Inv X pins (σ.set i (some v)) H s'→(∃ a,Heap.SameBut a s.heap s'.heap∧(a=X.env.locals∨X.env.cells.lookup x=some a))→Q () s') (hf:X.fn x=true∨X.env.scope.names.lookup x=some .local:=by first | exact .inl rfl | exact .inr rfl | assumption):wpAny M A (storeName X.env x u) Q E s:=by
 obtain ⟨m,hn,hl⟩:=id I.loc
 have hcls:(X.env.scope.kind==.class || (X.env.scope.kind==.module && X.env.locals != X.env.globals))=false:=by rw [I.ok.kind]; rfl
 have hiσ:i < σ.length:=by rw [I.len]; exact (List.getElem?_eq_some_iff.mp hi).1
 have cne:=I.cne
 have tracked:∀ {a:Addr} {h':Heap},(∃ o,s.heap.get? a=some o∧H a=none)→Heap.SameBut a s.heap h'→HOk X.prog X.w H h':=fun {a h'} ha hs b ob e=>by
  obtain ⟨_,_,hfree⟩:=ha
  refine (I.hok b ob e).stay (fun c w' hc q=>(hs.2 c ?_).trans q) (fun _ q=>q) fun _ _ q=>q
  rintro rfl
  rcases hc with rfl | hc
  ·rw [hfree] at e; cases e
  ·rw [hfree] at hc; cases hc
 rcases hx with hk | hk
 ·refine wpAny_storeName_local hk hn (fun h' hn' hs=>?_) hcls
  obtain ⟨oL,_,_,hoL,_⟩:=id hn
  refine h _ ⟨I.ok,I.os,I.bare,⟨fun b o e n hb hx=>?_,fun b o e n hb hx=>?_,I.base.free,fun b o e hx=>?_,I.base.tups,I.base.frzs,I.base.tbls⟩,⟨_,hn',fun j y v' e1 e2 e3=>?_⟩,fun y c e=>?_,I.free,I.freeC,fun p hp=>?_,tracked ⟨oL,hoL,I.free⟩ hs,by simpa using I.len⟩ ⟨_,hs,.inl rfl⟩
  ·exact (hs.2 b (Nat.ne_of_lt (Nat.lt_of_lt_of_le (Heap.lt_size e) I.ok.above))).trans (I.base.keep b o e n hb hx)
  ·obtain ⟨sl,e1⟩:=I.base.slot b o e n hb hx
   exact ⟨sl,(hs.2 b (Nat.ne_of_lt (Nat.lt_of_lt_of_le (Heap.lt_size e) I.ok.above))).trans e1⟩
  ·obtain ⟨o',e1⟩:=I.base.there b o e hx
   exact ⟨o',(hs.2 b (Nat.ne_of_lt (Nat.lt_of_lt_of_le (Heap.lt_size e) I.ok.above))).trans e1⟩
  ·by_cases hj:j=i
   ·subst hj
    rw [hi] at e1; cases e1
    rw [List.getElem?_set_self hiσ] at e2
    cases e2
    exact ⟨u,r,.inl ⟨hk,by simp⟩⟩
   ·rw [List.getElem?_set_ne (Ne.symm hj)] at e2
    obtain ⟨u',r',q⟩:=hl j y v' e1 e2 e3
    refine ⟨u',r',?_⟩
    rcases q with ⟨k,e⟩ | ⟨k,c,e,z⟩
    ·refine .inl ⟨k,?_⟩
     have:y≠x:=fun e=>hj (nodup_ix hN e1 (e▸hi))
     simp [this,e]
    ·exact .inr ⟨k,c,e,z.sameBut hs (cne y c e)⟩
  ·obtain ⟨w',z⟩:=I.cell y c e
   exact ⟨w',z.sameBut hs (cne y c e)⟩
  ·obtain ⟨e,n,ne,nf,d⟩:=I.pin p hp
   exact ⟨(hs.2 p.1 ne).trans e,n,ne,nf,d⟩
 ·have hfn:X.fn x=true:=by
   rcases hf with z | z
   ·exact z
   ·rw [z] at hk; cases hk
  obtain ⟨c,hc⟩:=I.ok.has x (.inl hk)
  obtain ⟨w',z⟩:=I.cell x c hc
  refine wpAny_storeName_cell I.ok.kind hk hc z (fun h' hc' hs=>?_)
  obtain ⟨oc,hoc,hocd⟩:=id z
  refine h { s with heap:=h' } ⟨I.ok,I.os,I.bare,⟨fun b o e n hb hx=>?_,fun b o e n hb hx=>?_,I.base.free,fun b o e hx=>?_,I.base.tups,I.base.frzs,I.base.tbls⟩,⟨m,hn.sameBut hs (Ne.symm (cne x c hc)),fun j y v' e1 e2 e3=>?_⟩,fun y c' e=>?_,I.free,I.freeC,fun p hp=>?_,tracked ⟨oc,hoc,I.freeC x c hc⟩ hs,by simpa using I.len⟩ ⟨c,hs,.inr hc⟩
  ·exact (hs.2 b (Nat.ne_of_lt (Nat.lt_of_lt_of_le (Heap.lt_size e) (I.ok.cab x c hfn hc)))).trans (I.base.keep b o e n hb hx)
  ·obtain ⟨sl,e1⟩:=I.base.slot b o e n hb hx
   exact ⟨sl,(hs.2 b (Nat.ne_of_lt (Nat.lt_of_lt_of_le (Heap.lt_size e) (I.ok.cab x c hfn hc)))).trans e1⟩
  ·obtain ⟨o',e1⟩:=I.base.there b o e hx
   exact ⟨o',(hs.2 b (Nat.ne_of_lt (Nat.lt_of_lt_of_le (Heap.lt_size e) (I.ok.cab x c hfn hc)))).trans e1⟩
  ·by_cases hj:j=i
   ·subst hj
    rw [hi] at e1; cases e1
    rw [List.getElem?_set_self hiσ] at e2
    cases e2
    exact ⟨u,r,.inr ⟨.inl hk,c,hc,hc'⟩⟩
   ·rw [List.getElem?_set_ne (Ne.symm hj)] at e2
    obtain ⟨u',r',q⟩:=hl j y v' e1 e2 e3
    refine ⟨u',r',?_⟩
    rcases q with q | ⟨k,c',e,z'⟩
    ·exact .inl q
    ·refine .inr ⟨k,c',e,z'.sameBut hs ?_⟩
     rintro rfl
     exact hj (nodup_ix hN e1 (I.ok.inj _ _ _ e hc▸hi))
  ·by_cases hcc:c'=c
   ·subst hcc; exact ⟨_,hc'⟩
   ·obtain ⟨w2,z2⟩:=I.cell y c' e
    exact ⟨w2,z2.sameBut hs hcc⟩
  ·obtain ⟨e,n,ne,nf,d⟩:=I.pin p hp
   refine ⟨(hs.2 p.1 ?_).trans e,n,ne,nf,d⟩
   intro q
   rw [q,hoc] at e
   have q':oc=p.2:=Option.some.inj e
   exact d w' (by rw [← q']; exact hocd)
theorem store_ok {M:Model} {A:Around} {E:Value→Shared→Prop} {i:Nat} {x:Str} {v:V} {u:Value} {Q:Unit→Shared→Prop} (I:Inv X pins σ H s) (hN:X.N.Nodup) (hi:X.N[i]? = some x) (hx:Loc X.env.scope x) (r:RelV v u)
  (h:∀ s',Inv X pins (σ.set i (some v)) H s'→Q () s') (hf:X.fn x=true∨X.env.scope.names.lookup x=some .local:=by first | exact .inl rfl | exact .inr rfl | assumption):wpAny M A (storeName X.env x u) Q E s:=
 store_ok2 I hN hi hx r (fun s' I' _=>h s' I') hf
theorem Inv.call' {s':Shared} {ch:List Addr} (I:Inv X pins σ H s) (ho:s'.os=s.os) (u:Un (frs X.stack) ch H H' s.heap s'.heap) (hok:HOk X.prog X.w H' s'.heap) (hg:AllBare s'.gens)
  (hch:∀ b∈ch,(b∈X.ex∨X.s₀.heap.objs.size≤b)∧b≠X.env.locals∧(∀ x c,X.env.cells.lookup x=some c→c≠b)∧∀ p∈X.pn ++ pins,p.1≠b):Inv X pins σ H' s':=by
 obtain ⟨h',g',d',t',o'⟩:=s'
 have e:o'=s.os:=ho
 subst e
 exact I.call (g':=g') (t':=t') (d':=d') u hok hg hch
end
abbrev XK:=Value→Option Addr→Hp→Prop
abbrev St:=List (Option V)
abbrev VK:=V→Hp→Prop
abbrev TE:=St→Hp→VK→Prop
abbrev TT:=St→Hp→(Bool→Hp→Prop)→Prop
abbrev TA:=St→Hp→(List V→Hp→Prop)→Prop
structure Ends where
 nx:St→Hp→Prop
 rt:VK
 bk:St→Hp→Prop:=fun _ _=>False
 ct:St→Hp→Prop:=fun _ _=>False
abbrev TS:=Ends→St→Hp→Prop
def EP (X:Cx) (pins:List (Addr × Obj)) (σ:St) (Q:VK) (u:Value) (s':Shared):Prop:=∃ v H',Inv X pins σ H' s'∧RelV v u∧Q v H'
def TP (X:Cx) (pins:List (Addr × Obj)) (σ:St) (Q:Bool→Hp→Prop) (b:Bool) (s':Shared):Prop:=∃ H',Inv X pins σ H' s'∧Q b H'
def AP (X:Cx) (pins:List (Addr × Obj)) (σ:St) (Q:List V→Hp→Prop) (us:List Value) (s':Shared):Prop:=∃ vs H',Inv X pins σ H' s'∧Vals vs us∧Q vs H'
def SP (X:Cx) (pins:List (Addr × Obj)) (D:Ends) (f:Flow) (s':Shared):Prop:=
 match f with
 | .next=>∃ σ' H',Inv X pins σ' H' s'∧D.nx σ' H'
 | .brk=>∃ σ' H',Inv X pins σ' H' s'∧D.bk σ' H'
 | .cont=>∃ σ' H',Inv X pins σ' H' s'∧D.ct σ' H'
 | .ret u=>∃ v σ' H',Inv X pins σ' H' s'∧RelV v u∧D.rt v H'
def PE (X:Cx) (e:Expr) (t:TE):Prop:=
 ∀ (pins:List (Addr × Obj)) (s:Shared) (σ:St) (H:Hp) (Q:VK),Inv X pins σ H s→t σ H Q→wpAny (model X.prog X.w) X.A (eval e X.env) (EP X pins σ Q) X.xe s
def PT (X:Cx) (e:Expr) (t:TT):Prop:=
 ∀ (pins:List (Addr × Obj)) (s:Shared) (σ:St) (H:Hp) (Q:Bool→Hp→Prop),Inv X pins σ H s→t σ H Q→wpAny (model X.prog X.w) X.A (isTrue e X.env (eval e X.env)) (TP X pins σ Q) X.xe s
def PW (X:Cx) (e:Expr) (t:TT):Prop:=
 ∀ (whole:Sem Value) (pins:List (Addr × Obj)) (s:Shared) (σ:St) (H:Hp) (Q:Bool→Hp→Prop),Inv X pins σ H s→t σ H Q→wpAny (model X.prog X.w) X.A (isTrue e X.env whole) (TP X pins σ Q) X.xe s
theorem PW.pt {X:Cx} {e:Expr} {t:TT} (h:PW X e t):PT X e t:=h _
def PA (X:Cx) (es:List Expr) (t:TA):Prop:=
 ∀ (pos:Pos) (pins:List (Addr × Obj)) (s:Shared) (σ:St) (H:Hp) (Q:List V→Hp→Prop),Inv X pins σ H s→t σ H Q→wpAny (model X.prog X.w) X.A (spliced (backTo pos (starEach es X.env))) (AP X pins σ Q) X.xe s
def PS (X:Cx) (st:Stmt) (t:TS):Prop:=
 ∀ (pins:List (Addr × Obj)) (s:Shared) (σ:St) (H:Hp) (D:Ends),Inv X pins σ H s→t D σ H→wpAny (model X.prog X.w) X.A (exec st X.env) (SP X pins D) X.xe s
def PSs (X:Cx) (st:List Stmt) (t:TS):Prop:=
 ∀ (pins:List (Addr × Obj)) (s:Shared) (σ:St) (H:Hp) (D:Ends),Inv X pins σ H s→t D σ H→wpAny (model X.prog X.w) X.A (execs st X.env) (SP X pins D) X.xe s
theorem thn {α:Type} {t:Sem α} {Q Q':α→Shared→Prop} {M:Model} {A:Around} {E:Value→Shared→Prop} {s:Shared} (h:wpAny M A t Q E s) (hQ:∀ a s,Q a s→Q' a s):wpAny M A t Q' E s:=wpAny_mono h hQ fun _ _ x=>x
end L2
namespace L2
open PySem PySem.Spec PyProof.Rows
section
variable {X:Cx}
inductive tVarI (i:Nat) (σ:St) (H:Hp) (Q:VK):Prop
 | mk (v:_) (h1:σ[i]? = some (some v)) (h2:Q v H):tVarI i σ H Q
def tVar (i:Nat):TE:=fun σ H Q=>tVarI i σ H Q
def tC (v:V):TE:=fun _ H Q=>Q v H
theorem pe_var {i:Nat} {x:Str} {pos:Pos} (hN:X.N[i]? = some x) (hv:Vis X.env.scope x) (hd:(x==("__debug__" : Str))=false:=by decide) (hcd:(x==("__classdict__" : Str))=false:=by decide):PE X (.Name x pos) (tVar i):=by
 intro pins s σ H Q I h
 obtain ⟨v,e,h⟩:=h
 obtain ⟨m,hn,hl⟩:=I.loc
 obtain ⟨u,r,l⟩:=hl i x v hN e hv
 have fin:EP X pins σ Q u s:=⟨v,H,I,r,h⟩
 rcases l with ⟨hk,hm⟩ | ⟨hk,c,hc,hcell⟩
 ·exact wpAny_Name (wpAny_loadName_local I.ok.kind hk hn hm fin) hd
 ·rcases hk with hk | hk
  ·exact wpAny_Name (wpAny_loadName_cell I.ok.kind hk hc hcell fin) hd
  ·exact wpAny_Name (wpAny_loadName_free I.ok.kind hk hc hcell fin hcd) hd
theorem pe_int {i j pos}:PE X (.Constant (.int i) j pos) (tC (.int i)):=fun _ _ _ H _ I h=>wpAny_Constant_int ⟨.int i,H,I.tok _,⟨_,rfl⟩,h⟩
theorem pe_bl {b j pos}:PE X (.Constant (.bool b) j pos) (tC (.bl b)):=fun _ _ _ H _ I h=>Constant_bool ⟨.bl b,H,I,rfl,h⟩
theorem pe_non {j pos}:PE X (.Constant .none j pos) (tC .non):=fun _ _ _ H _ I h=>Constant_none ⟨.non,H,I,rfl,h⟩
theorem pe_str {x j pos}:PE X (.Constant (.str x) j pos) (tC (.str x)):=fun _ _ _ H _ I h=>Calls.Constant_str ⟨.str x,H,I.tok _,⟨_,rfl⟩,h⟩
def Gl (X:Cx) (x:Str):Prop:=X.env.kindOf x=some .globalImplicit
theorem ld_glob {E:Value→Shared→Prop} {pins:List (Addr × Obj)} {s:Shared} {σ:St} {H:Hp} {x:Str} {u:Value} {pos:Pos} {Q:Value→Shared→Prop} (I:Inv X pins σ H s) (hg:Gl X x) (hm:X.mg x=some u) (h:Q u s)
  (hd:(x==("__debug__" : Str))=false:=by decide):wpAny (model X.prog X.w) X.A (eval (.Name x pos) X.env) Q E s:=
 Calls.Name_function_global I.ok.kind hg (Calls.loadGlobal_global (by rw [I.ok.glob]; exact I.mod.glob.keeps I.bk) hm h) hd
theorem ld_blt {E:Value→Shared→Prop} {pins:List (Addr × Obj)} {s:Shared} {σ:St} {H:Hp} {x:Str} {u:Value} {pos:Pos} {Q:Value→Shared→Prop} (I:Inv X pins σ H s) (hg:Gl X x) (hm:X.mg x=none) (hv:bootBuiltins x=some u) (h:Q u s)
  (hn:x≠"__name__":=by decide) (hd:(x==("__debug__" : Str))=false:=by decide):wpAny (model X.prog X.w) X.A (eval (.Name x pos) X.env) Q E s:=by
 obtain ⟨mb,h1,h2⟩:=I.mod.blt
 exact Calls.Name_function_global I.ok.kind hg (Calls.loadGlobal_builtin (by rw [I.ok.glob]; exact I.mod.glob.keeps I.bk) hm (by rw [I.ok.blt]; exact h1.keeps I.bk) ((h2 x hn).trans hv) h) hd
theorem pe_glob {x:Str} {v:V} {u:Value} {pos:Pos} (hg:Gl X x) (hm:X.mg x=some u) (r:RelV v u) (hd:(x==("__debug__" : Str))=false:=by decide):PE X (.Name x pos) (tC v):=
 fun _ _ _ H _ I h=>ld_glob I hg hm ⟨v,H,I,r,h⟩ hd
variable {a b:Expr} {ta tb:TE} {pos:Pos}
def PC (X:Cx) (op:CmpOp) (a b:Expr) (t:TE):Prop:=
 ∀ (pins:List (Addr × Obj)) (s:Shared) (σ:St) (H:Hp) (Q:VK),Inv X pins σ H s→t σ H Q→
  wpAny (model X.prog X.w) X.A (eval a X.env) (fun v s₁=>wpAny (model X.prog X.w) X.A (eval b X.env) (fun u s₂=>wpAny (model X.prog X.w) X.A (compareOp op v u) (EP X pins σ Q) X.xe s₂) X.xe s₁) X.xe s
theorem nobehind (b:Expr) {op:CmpOp} (h:op≠.In) (h2:op≠.NotIn):behindInMarks op b=false:=by
 have e1:(op==CmpOp.In)=false:=by cases op <;> first | rfl | exact absurd rfl h
 have e2:(op==CmpOp.NotIn)=false:=by cases op <;> first | rfl | exact absurd rfl h2
 cases b <;> simp [behindInMarks,e1,e2]
inductive tBI (Q:Bool→Hp→Prop) (x:V) (H1:Hp):Prop
 | mk (c:_) (h1:x=.bl c) (h2:Q c H1):tBI Q x H1
def tB (t:TE):TT:=fun σ H Q=>t σ H fun x H1=>tBI Q x H1
theorem pt_cmp {op:CmpOp} {t:TE} (h:PC X op a b t) (h1:behindInMarks op b=false:=by first | exact nobehind _ (by decide) (by decide) | rfl):PT X (.Compare a [op] [b] pos) (tB t):=by
 intro pins s σ H Q I hw
 refine wpAny_isTrue_Compare1 (thn (h pins s σ H _ I hw) fun v s1 h1=>thn h1 fun u s2 h2=>thn h2 fun c s3 ⟨x,H1,I1,r1,q1⟩=>?_) h1
 obtain ⟨d,rfl,q⟩:=q1
 cases r1
 exact wpAny_truthy_bool ⟨H1,I1,q⟩
variable {tA tB':TT} {rest:List Expr}
def tAnd (t u:TT):TT:=fun σ H Q=>t σ H fun c H1=>if c=true then u σ H1 Q else Q false H1
def tOr (t u:TT):TT:=fun σ H Q=>t σ H fun c H1=>if c=true then Q true H1 else u σ H1 Q
def tNot (t:TT):TT:=fun σ H Q=>t σ H fun c H1=>Q (!c) H1
theorem pw_and1 (ha:PT X a tA):PW X (.BoolOp .And [a] pos) tA:=by
 intro wh pins s σ H Q I h
 refine isTrue_and (thn (ha pins s σ H Q I h) fun c s1 e=>?_)
 cases c with
 | true=>exact isTrue_and_nil e
 | false=>exact e
theorem pw_or1 (ha:PT X a tA):PW X (.BoolOp .Or [a] pos) tA:=by
 intro wh pins s σ H Q I h
 refine isTrue_or (thn (ha pins s σ H Q I h) fun c s1 e=>?_)
 cases c with
 | false=>exact isTrue_or_nil e
 | true=>exact e
theorem pw_and (ha:PT X a tA) (hb:PW X (.BoolOp .And (b :: rest) pos) tB'):PW X (.BoolOp .And (a :: b :: rest) pos) (tAnd tA tB'):=by
 intro wh pins s σ H Q I h
 refine isTrue_and (thn (ha pins s σ H _ I h) fun c s1 ⟨H1,I1,q1⟩=>?_)
 cases c with
 | true=>exact hb wh pins s1 σ H1 Q I1 q1
 | false=>exact ⟨H1,I1,q1⟩
theorem pw_or (ha:PT X a tA) (hb:PW X (.BoolOp .Or (b :: rest) pos) tB'):PW X (.BoolOp .Or (a :: b :: rest) pos) (tOr tA tB'):=by
 intro wh pins s σ H Q I h
 refine isTrue_or (thn (ha pins s σ H _ I h) fun c s1 ⟨H1,I1,q1⟩=>?_)
 cases c with
 | true=>exact ⟨H1,I1,q1⟩
 | false=>exact hb wh pins s1 σ H1 Q I1 q1
theorem pt_not (ha:PT X a tA):PT X (.UnaryOp .Not a pos) (tNot tA):=by
 intro pins s σ H Q I h
 exact isTrue_not (ha pins s σ H (fun c H1=>Q (!c) H1) I h)
inductive tAndVI (tb:TE) (σ:St) (Q:VK) (x:V) (H1:Hp):Prop
 | mk (c:_) (h1:x=.bl c) (h2:if c=true then tb σ H1 Q else Q (.bl false) H1):tAndVI tb σ Q x H1
def tAndV (ta tb:TE):TE:=fun σ H Q=>ta σ H fun x H1=>tAndVI tb σ Q x H1
inductive tNotVI (Q:VK) (x:V) (H1:Hp):Prop
 | mk (c:_) (h1:x=.bl c) (h2:Q (.bl (!c)) H1):tNotVI Q x H1
def tNotV (ta:TE):TE:=fun σ H Q=>ta σ H fun x H1=>tNotVI Q x H1
theorem pe_one {op} {t:TE} (h:PE X a t):PE X (.BoolOp op [a] pos) t:=fun pins s σ H Q I hw=>BoolOp_one (h pins s σ H Q I hw)
theorem pe_and (ha:PE X a ta) (hb:PE X (.BoolOp .And (b :: rest) pos) tb):PE X (.BoolOp .And (a :: b :: rest) pos) (tAndV ta tb):=by
 intro pins s σ H Q I h
 refine BoolOp_and (thn (ha pins s σ H _ I h) fun v s1 ⟨x,H1,I1,r1,q1⟩=>?_)
 obtain ⟨c,rfl,q1⟩:=q1
 cases r1
 refine wpAny_truthy_bool ?_
 cases c with
 | true=>exact hb pins s1 σ H1 Q I1 q1
 | false=>exact ⟨.bl false,H1,I1,rfl,q1⟩
theorem pe_not (ha:PE X a ta):PE X (.UnaryOp .Not a pos) (tNotV ta):=by
 intro pins s σ H Q I h
 refine UnaryOp_ (thn (ha pins s σ H _ I h) fun v s1 ⟨x,H1,I1,r1,q1⟩=>?_)
 obtain ⟨c,rfl,q1⟩:=q1
 cases r1
 exact not_of (wpAny_truthy_bool ⟨.bl (!c),H1,I1,rfl,q1⟩)
end
end L2
namespace L2
open PySem PySem.Spec PyProof.Rows
def SqL (K:PySem.W.Frag) (H:Hp) (a:Addr) (xs:List V):Prop:=
 Rd H a (.lst xs)∨
  ∃ (o:Obj) (its:Array Value) (n:Nat),K.lookup a=some o∧o.cls=.type "list"∧o.dict=none∧o.data=.seq its n∧its.size≤sizeLine∧Vals xs its.toList
def SqT (K:PySem.W.Frag) (H:Hp) (a:Addr) (xs:List V):Prop:=
 Rd H a (.tup xs)∨
  ∃ (o:Obj) (its:Array Value) (n:Nat),K.lookup a=some o∧o.cls=.type "tuple"∧o.data=.seq its n∧its.size≤sizeLine∧Vals xs its.toList
def absV:Value→Option V
 | .none=>some .non
 | .bool b=>some (.bl b)
 | .int i _=>some (.int i)
 | .str x _=>some (.str x)
 | .bytes b _=>some (.byt b)
 | .float b _=>some (.flt b)
 | .ref a=>some (.ref a)
 | .type n=>some (.ty n)
 | _=>none
theorem RelV.abs {x:V} {u:Value} (r:RelV x u):absV u=some x:=by
 cases x with
 | non=>cases r; rfl
 | bl _=>cases r; rfl
 | int _=>obtain ⟨t,rfl⟩:=r; rfl
 | str _=>obtain ⟨t,rfl⟩:=r; rfl
 | byt _=>obtain ⟨t,rfl⟩:=r; rfl
 | flt _=>obtain ⟨t,rfl⟩:=r; rfl
 | ref _=>cases r; rfl
 | ty _=>cases r; rfl
theorem RelV.inj {x y:V} {u:Value} (r:RelV x u) (q:RelV y u):x=y:=Option.some.inj (r.abs.symm.trans q.abs)
theorem Vals.inj:∀ {xs ys:List V} {us:List Value},Vals xs us→Vals ys us→xs=ys
 | _,_,_,.nil,.nil=>rfl
 | _,_,_,.cons r t,.cons r' t'=>by rw [r.inj r',Vals.inj t t']
section
variable {X:Cx} {pins:List (Addr × Obj)} {σ:St} {H:Hp} {s:Shared} {a:Addr} {xs ys:List V}
theorem SqL.of {K:PySem.W.Frag} (h:H a=some (.lst xs)):SqL K H a xs:=.inl (.inl h)
theorem SqT.of {K:PySem.W.Frag} (h:H a=some (.tup xs)):SqT K H a xs:=.inl (.inl h)
theorem Inv.list (I:Inv X pins σ H s) (h:SqL X.K H a xs):∃ its:List Value,Vals xs its∧PlainL s.heap a its.toArray∧xs.length≤sizeLine:=by
 rcases h with h | ⟨o,its,n,hk,hc,hd,hs,hz,r⟩
 ·obtain ⟨z,its,n,r,e⟩:=h.ok I.hok
  exact ⟨its,r,⟨_,n,e,rfl,rfl,rfl⟩,z⟩
 ·refine ⟨its.toList,r,⟨o,n,I.kIn a o hk,hc,hd,by simpa using hs⟩,?_⟩
  have e:=r.length
  simp only [Array.length_toList] at e
  omega
theorem Inv.tuple (I:Inv X pins σ H s) (h:SqT X.K H a xs):∃ its:List Value,Vals xs its∧IsTup s.heap a its.toArray∧xs.length≤sizeLine:=by
 rcases h with h | ⟨o,its,n,hk,hc,hs,hz,r⟩
 ·obtain ⟨z,its,r,p⟩:=h.ok I.hok
  exact ⟨its,r,p,z⟩
 ·refine ⟨its.toList,r,⟨o,I.kIn a o hk,hc,n,by simpa using hs⟩,?_⟩
  have e:=r.length
  simp only [Array.length_toList] at e
  omega
theorem Inv.list_inj (I:Inv X pins σ H s) (h:SqL X.K H a xs) (h':SqL X.K H a ys):xs=ys:=by
 obtain ⟨its,r,⟨o,n,e,_,_,d⟩,_⟩:=I.list h
 obtain ⟨its',r',⟨o',n',e',_,_,d'⟩,_⟩:=I.list h'
 rw [e] at e'; cases e'
 rw [d] at d'
 injection d' with d1 _
 have:its=its':=by simpa using congrArg Array.toList d1
 subst this
 exact r.inj r'
theorem Inv.tuple_inj (I:Inv X pins σ H s) (h:SqT X.K H a xs) (h':SqT X.K H a ys):xs=ys:=by
 obtain ⟨its,r,⟨o,e,_,n,d⟩,_⟩:=I.tuple h
 obtain ⟨its',r',⟨o',e',_,n',d'⟩,_⟩:=I.tuple h'
 rw [e] at e'; cases e'
 rw [d] at d'
 injection d' with d1 _
 have:its=its':=by simpa using congrArg Array.toList d1
 subst this
 exact r.inj r'
end
abbrev Cx.wish (X:Cx) (E:Value→Shared→Prop):Cx:={ X with xe:=E }
abbrev Cx.nox (X:Cx):Cx:=X.wish fun _ _=>False
theorem Cx.Ok.wish {X:Cx} (ok:X.Ok) (E:Value→Shared→Prop):(X.wish E).Ok:=
 ⟨ok.mod,ok.kind,ok.glob,ok.blt,ok.above,ok.inj,ok.has,ok.cab,ok.hd,ok.frames,ok.stk,ok.exf,ok.bs,ok.bsz,ok.noex,ok.exfs,ok.funs,ok.frf⟩
theorem Cx.Ok.unwish {X:Cx} {E:Value→Shared→Prop} (ok:(X.wish E).Ok):X.Ok:=
 ⟨ok.mod,ok.kind,ok.glob,ok.blt,ok.above,ok.inj,ok.has,ok.cab,ok.hd,ok.frames,ok.stk,ok.exf,ok.bs,ok.bsz,ok.noex,ok.exfs,ok.funs,ok.frf⟩
section
variable {X:Cx} {pins:List (Addr × Obj)} {σ:St} {H:Hp} {s:Shared} {E:Value→Shared→Prop}
theorem Inv.wish (I:Inv X pins σ H s) (E:Value→Shared→Prop):Inv (X.wish E) pins σ H s:=⟨I.ok.wish E,I.os,I.bare,I.base,I.loc,I.cell,I.free,I.freeC,I.pin,I.hok,I.len⟩
theorem Inv.unwish (I:Inv (X.wish E) pins σ H s):Inv X pins σ H s:=⟨I.ok.unwish,I.os,I.bare,I.base,I.loc,I.cell,I.free,I.freeC,I.pin,I.hok,I.len⟩
theorem SP.unwish {D:Ends} {f:Flow} {s':Shared} (h:SP (X.wish E) pins D f s'):SP X pins D f s':=by
 cases f with
 | next=>obtain ⟨σ',H',I,q⟩:=h; exact ⟨σ',H',I.unwish,q⟩
 | brk=>obtain ⟨σ',H',I,q⟩:=h; exact ⟨σ',H',I.unwish,q⟩
 | cont=>obtain ⟨σ',H',I,q⟩:=h; exact ⟨σ',H',I.unwish,q⟩
 | ret u=>obtain ⟨v,σ',H',I,r,q⟩:=h; exact ⟨v,σ',H',I.unwish,r,q⟩
theorem PSs.nox {st:List Stmt} {t:TS} (h:PSs X.nox st t):PSs X st t:=fun pins s σ H D I hw=>
 wpAny_mono (h pins s σ H D (I.wish _) hw) (fun _ _ q=>q.unwish) fun _ _ z=>False.elim z
end
section
variable {X:Cx} {st:Stmt} {rest:List Stmt} {t u:TS} {e:Expr} {te:TE} {pos:Pos}
def tNext:TS:=fun D σ H=>D.nx σ H
def tSeq (t u:TS):TS:=fun D σ H=>t { D with nx:=u D } σ H
theorem pss_nil:PSs X [] tNext:=fun _ _ σ H _ I h=>wpAny_execs_nil ⟨σ,H,I,h⟩
theorem pss_cons (h1:PS X st t) (h2:PSs X rest u):PSs X (st :: rest) (tSeq t u):=by
 intro pins s σ H D I h
 refine wpAny_execs_cons (thn (h1 pins s σ H { D with nx:=u D } I h) fun f s1 q=>?_)
 cases f with
 | next=>
  obtain ⟨σ',H',I',q⟩:=q
  exact h2 pins s1 σ' H' D I' q
 | ret v=>exact q
 | brk=>exact q
 | cont=>exact q
theorem pss_one (h1:PS X st t):PSs X [st] t:=by
 intro pins s σ H D I h
 refine wpAny_execs_cons (thn (h1 pins s σ H D I h) fun f s1 q=>?_)
 cases f with
 | next=>exact wpAny_execs_nil q
 | ret v=>exact q
 | brk=>exact q
 | cont=>exact q
theorem Inv.quiet {pins:List (Addr × Obj)} {σ:St} {H:Hp} {s:Shared} (I:Inv X pins σ H s):interactive X.env=false:=by simp [interactive,I.ok.kind]
def tDrop (te:TE):TS:=fun D σ H=>te σ H fun _ H1=>D.nx σ H1
theorem ps_expr (he:PE X e te) (hs:swapsWith e none pos.line X.env=pure false:=by rfl):PS X (.Expr e pos) (tDrop te):=by
 intro pins s σ H D I h
 exact wpAny_Expr_any (thn (he pins s σ H _ I h) fun v s1 ⟨x,H1,I1,r1,q1⟩=>⟨σ,H1,I1,q1⟩) I.quiet hs
def tRet (te:TE):TS:=fun D σ H=>te σ H D.rt
theorem ps_ret (he:PE X e te):PS X (.Return (some e) pos) (tRet te):=by
 intro pins s σ H D I h
 exact wpAny_Return_some (thn (he pins s σ H _ I h) fun v s1 ⟨x,H1,I1,r1,q1⟩=>⟨x,σ,H1,I1,r1,q1⟩)
def tIfS (c:TT) (t u:TS):TS:=fun D σ H=>c σ H fun b H1=>if b=true then t D σ H1 else u D σ H1
theorem ps_if {c:Expr} {a b:List Stmt} {tc:TT} (hc:PT X c tc) (ha:PSs X a t) (hb:PSs X b u):PS X (.If c a b pos) (tIfS tc t u):=by
 intro pins s σ H D I h
 refine wpAny_If (thn (hc pins s σ H _ I h) fun d s1 ⟨H1,I1,q1⟩=>?_)
 cases d with
 | true=>exact ha pins s1 σ H1 D I1 q1
 | false=>exact hb pins s1 σ H1 D I1 q1
end
abbrev TG:=V→St→Hp→(St→Hp→Prop)→Prop
abbrev TGs:=List V→St→Hp→(St→Hp→Prop)→Prop
def PG (X:Cx) (target:Expr) (t:TG):Prop:=
 ∀ (pins:List (Addr × Obj)) (s:Shared) (σ:St) (H:Hp) (v:V) (u:Value) (Q:St→Hp→Prop),Inv X pins σ H s→RelV v u→t v σ H Q→
  wpAny (model X.prog X.w) X.A (assign target X.env u) (fun _ s'=>∃ σ' H',Inv X pins σ' H' s'∧Q σ' H') X.xe s
def PGs (X:Cx) (ts:List Expr) (t:TGs):Prop:=
 ∀ (pins:List (Addr × Obj)) (s:Shared) (σ:St) (H:Hp) (vs:List V) (us:List Value) (Q:St→Hp→Prop),Inv X pins σ H s→Vals vs us→t vs σ H Q→
  wpAny (model X.prog X.w) X.A (assignInOrder ((assignEach ts X.env).map (·.2)) us) (fun _ s'=>∃ σ' H',Inv X pins σ' H' s'∧Q σ' H') X.xe s
abbrev TSet:=V→V→V→Hp→(Hp→Prop)→Prop
def PSet (X:Cx) (t:TSet):Prop:=
 ∀ (pins:List (Addr × Obj)) (s:Shared) (σ:St) (H:Hp) (o i v:V) (ov iv u:Value) (Q:Hp→Prop),Inv X pins σ H s→RelV o ov→RelV i iv→RelV v u→t o i v H Q→
  wpAny (model X.prog X.w) X.A (setItem ov iv u) (fun _ s'=>∃ H',Inv X pins σ H' s'∧Q H') X.xe s
section
variable {X:Cx} {pos:Pos}
def gName (i:Nat):TG:=fun v σ H Q=>Q (σ.set i (some v)) H
theorem pg_name {i:Nat} {x:Str} (hN:X.N.Nodup) (hi:X.N[i]? = some x) (hx:Loc X.env.scope x) (hf:X.fn x=true∨X.env.scope.names.lookup x=some .local:=by first | exact .inl rfl | exact .inr rfl | assumption):PG X (.Name x pos) (gName i):=by
 intro pins s σ H v u Q I r h
 exact wpAny_assign_Name (store_ok I hN hi hx r (fun s' I'=>⟨_,H,I',h⟩) hf)
def gNil:TGs:=fun vs σ H Q=>vs=[]∧Q σ H
inductive gConsI (t:TG) (u:TGs) (vs:List V) (σ:St) (H:Hp) (Q:St→Hp→Prop):Prop
 | mk (v r:_) (h1:vs=v :: r) (h2:t v σ H fun σ' H'=>u r σ' H' Q):gConsI t u vs σ H Q
def gCons (t:TG) (u:TGs):TGs:=fun vs σ H Q=>gConsI t u vs σ H Q
theorem pgs_nil:PGs X [] gNil:=by
 intro pins s σ H vs us Q I r h
 obtain ⟨e,h⟩:=h
 subst e
 cases r
 exact assignInOrder_nil ⟨σ,H,I,h⟩
theorem pgs_cons {e:Expr} {es:List Expr} {t:TG} {u:TGs} (h1:PG X e t) (h2:PGs X es u)
  (hs:(assignEach (e :: es) X.env).map (·.2)=assign e X.env :: (assignEach es X.env).map (·.2):=by rfl):PGs X (e :: es) (gCons t u):=by
 intro pins s σ H vs us Q I r h
 obtain ⟨v,vr,e1,h⟩:=h
 subst e1
 cases r with
 | cons r rr=>
  rw [hs]
  refine assignInOrder_cons (thn (h1 pins s σ H _ _ _ I r h) fun _ s1 ⟨σ1,H1,I1,q1⟩=>?_)
  exact h2 pins s1 σ1 H1 _ _ Q I1 rr q1
inductive gTupI (K:PySem.W.Frag) (n:Nat) (t:TGs) (v:V) (σ:St) (H:Hp) (Q:St→Hp→Prop):Prop
 | mk (a xs:_) (h1:v=.ref a) (h2:SqT K H a xs) (h3:xs.length=n) (h4:t xs σ H Q):gTupI K n t v σ H Q
def gTup (K:PySem.W.Frag) (n:Nat) (t:TGs):TG:=fun v σ H Q=>gTupI K n t v σ H Q
theorem pg_tup {es:List Expr} {k:Nat} {t:TGs} {n:Nat} (hc:X.calm=true) (h:PGs X es t)
  (hn:(assignEach es X.env).length=n:=by rfl) (hst:(assignEach es X.env).findIdx? (·.1)=none:=by rfl):PG X (.Tuple es k pos) (gTup X.K n t):=by
 intro pins s σ H v u Q I r hw
 obtain ⟨a,xs,e1,hq,hl,hw⟩:=hw
 subst e1
 cases r
 obtain ⟨its,rv,ht,hz⟩:=I.tuple hq
 refine assign_Tuple_tuple (I.ok.hd hc) ht (by simp [hn,← hl,rv.length]) hst fun h' hx=>?_
 have I1:Inv X pins σ H { s with heap:=h' }:=I.kept (t':=s.toks) fun b o e=>hx b o (Nat.ne_of_lt (Heap.lt_size e)) e
 exact h pins _ σ H xs _ Q I1 (by simpa using rv) hw
def gSub (to ti:TE) (t:TSet):TG:=fun v σ H Q=>to σ H fun o H1=>ti σ H1 fun i H2=>t o i v H2 fun H3=>Q σ H3
theorem pg_sub {o i:Expr} {to ti:TE} {t:TSet} (ho:PE X o to) (hi:PE X i ti) (hs:PSet X t)
  (ha:∀ v,assign (.Subscript o i pos) X.env v=(do
   let ov ← holding [v] (eval o X.env)
   let iv ← holding [v,ov] (eval i X.env)
   standAt pos
   holding [v,ov,iv] (setItem ov iv v)
   release [v,ov,iv] []):=by intro _; rfl):PG X (.Subscript o i pos) (gSub to ti t):=by
 intro pins s σ H v u Q I r h
 rw [ha]
 refine wpAny_bind (wpAny_holding (thn (ho pins s σ H _ I h) fun ov s1 ⟨x,H1,I1,r1,q1⟩=>?_))
 refine wpAny_bind (wpAny_holding (thn (hi pins s1 σ H1 _ I1 q1) fun iv s2 ⟨y,H2,I2,r2,q2⟩=>?_))
 refine wpAny_bind (wpAny_standAt (wpAny_bind (wpAny_holding (thn (hs pins s2 σ H2 x y v ov iv u _ I2 r1 r2 r q2) fun _ s3 ⟨H3,I3,q3⟩=>?_))))
 exact wpAny_release ⟨σ,H3,I3,q3⟩
def tAsg (te:TE) (g:TG):TS:=fun D σ H=>te σ H fun x H1=>g x σ H1 D.nx
theorem ps_asg {tg e:Expr} {te:TE} {g:TG} (he:PE X e te) (hg:PG X tg g) (hs:swapsWithSole [tg] e pos.line X.env=pure false:=by rfl) (hw:swappedStores [tg] e X.env=pure none:=by rfl)
  (h1:(assignEach [tg] X.env).map (·.2)=[assign tg X.env]:=by rfl):PS X (.Assign [tg] e pos) (tAsg te g):=by
 intro pins s σ H D I h
 refine wpAny_Assign_stores (thn (he pins s σ H _ I h) fun v s1 ⟨x,H1,I1,r1,q1⟩=>?_) hs hw
 rw [h1]
 exact thn (hg pins s1 σ H1 x v _ I1 r1 q1) fun _ s2 q=>q
theorem ps_set {i:Nat} {x:Str} {e:Expr} {te:TE} {pos':Pos} (hN:X.N.Nodup) (hi:X.N[i]? = some x) (hx:Loc X.env.scope x) (he:PE X e te) (hs:swapsWith e (some (.Name x pos')) pos.line X.env=pure false:=by rfl) (hf:X.fn x=true∨X.env.scope.names.lookup x=some .local:=by first | exact .inl rfl | exact .inr rfl | assumption) :
  PS X (.Assign [.Name x pos'] e pos) (tAsg te (gName i)):=by
 intro pins s σ H D I h
 refine wpAny_Assign_Name (thn (he pins s σ H _ I h) fun v s1 ⟨y,H1,I1,r1,q1⟩=>?_) hs
 exact store_ok I1 hN hi hx r1 (fun s2 I2=>⟨_,H1,I2,q1⟩) hf
inductive tParI (i:Nat) (j:Nat) (D:Ends) (σ:St) (vs:List V) (H1:Hp):Prop
 | mk (v w:_) (h1:vs=[v,w]) (h2:D.nx ((σ.set i (some v)).set j (some w)) H1):tParI i j D σ vs H1
def tPar (i j:Nat) (ta:TA):TS:=fun D σ H=>ta σ H fun vs H1=>tParI i j D σ vs H1
theorem ps_par {i j:Nat} {x y:Str} {a b:Expr} {ta:TA} {px py pt:Pos} {kt k2 pt2} (hc:X.calm=true) (hN:X.N.Nodup) (hi:X.N[i]? = some x) (hj:X.N[j]? = some y) (hij:i≠j)
  (hx:X.env.scope.names.lookup x=some .local) (hy:X.env.scope.names.lookup y=some .local) (ha:PA X [a,b] ta)
  (hw:swappedStores [.Tuple [.Name x px,.Name y py] kt pt] (.Tuple [a,b] k2 pt2) X.env=pure (some [x,y]))
  (hs:swapsWithSole [.Tuple [.Name x px,.Name y py] kt pt] (.Tuple [a,b] k2 pt2) pos.line X.env=pure false:=by rfl) :
  PS X (.Assign [.Tuple [.Name x px,.Name y py] kt pt] (.Tuple [a,b] k2 pt2) pos) (tPar i j ta):=by
 intro pins s σ H D I h
 rw [exec_Assign_arm]
 refine wpAny_bind (wpAny_standAt ?_)
 rw [hs]
 refine wpAny_bind (wpAny_pure ?_)
 rw [if_neg (by decide)]
 refine wpAny_bind (Tuple_ (thn (ha _ pins s σ H _ I h) fun us s1 ⟨vs,H1,I1,r1,q1⟩=>?_))
 obtain ⟨v,w,e1,q1⟩:=q1
 subst e1
 obtain ⟨u1,u2,rfl,rv,rw'⟩:∃ u1 u2,us=[u1,u2]∧RelV v u1∧RelV w u2:=by
  cases r1 with
  | cons p q=>
   cases q with
   | cons p' q'=>
    cases q'
    exact ⟨_,_,rfl,p,p'⟩
 refine wpAny_newObj_type ?_ (by show 2≤sizeLine; decide)
 have I2:Inv X pins σ H1 { s1 with heap:=s1.heap.push { cls:=.type "tuple",data:=.seq [u1,u2].toArray } }:=I1.kept (t':=s1.toks) fun b o e=>Heap.get?_push_of_some _ e
 rw [hw]
 refine wpAny_bind (wpAny_pure ?_)
 show wpAny (model X.prog X.w) X.A (do rule "assign.swapped-stores"; let items ← unpackItems (.ref s1.heap.objs.size) 2 none; assignInOrder [fun v=>bindName X.env y v,fun v=>bindName X.env x v] items.reverse; pure Flow.next) _ _ _
 refine wpAny_bind (wpAny_rule (wpAny_bind (unpackItems_tuple (items:=#[u1,u2]) (I.ok.hd hc) (IsTup.new s1.heap _) fun h' hx'=>?_)))
 have I3:=I2.kept (h':=h') (t':=s1.toks) fun b o e=>hx' b o (Nat.ne_of_lt (Heap.lt_size e)) e
 show wpAny _ _ (assignInOrder [fun v=>bindName X.env y v,fun v=>bindName X.env x v] [u2,u1] >>= fun _=>pure Flow.next) _ _ _
 refine wpAny_bind (assignInOrder_cons (wpAny_bindName (store_ok I3 hN hj (.inl hy) rw' (fun s2 I4=>?_) (.inr hy))))
 refine assignInOrder_cons (wpAny_bindName (store_ok I4 hN hi (.inl hx) rv (fun s3 I5=>assignInOrder_nil (wpAny_pure ?_)) (.inr hx)))
 rw [List.set_comm _ _ (Ne.symm hij)] at I5
 exact ⟨_,H1,I5,q1⟩
end
section
variable {X:Cx} {pos:Pos}
inductive tWhileI (c:TT) (tb:TS) (D:Ends) (σ:St) (H:Hp):Prop
 | mk (W:Nat→St→Hp→Prop) (h1:(∃ m,W m σ H)) (h2:∀ m σ H,W m σ H→c σ H fun b H1=>if b=true then ∃ N:St→Hp→Prop,(∀ σ' H',N σ' H'→∃ m',m' < m∧W m' σ' H')∧tb { D with nx:=N,ct:=N,bk:=D.nx } σ H1 else D.nx σ H1):tWhileI c tb D σ H
def tWhile (c:TT) (tb:TS):TS:=fun D σ H=>tWhileI c tb D σ H
theorem ps_while {c:Expr} {body:List Stmt} {tc:TT} {tb:TS} (hp:PassesOwn (model X.prog X.w) X.A X.env X.xe) (hc:PT X c tc) (hb:PSs X body tb):PS X (.While c body [] pos) (tWhile tc tb):=by
 intro pins s σ H D I h
 obtain ⟨W,⟨m0,w0⟩,turn⟩:=h
 refine wpAny_While (codeAny_whileLoop (fun n s'=>∃ σ' H',Inv X pins σ' H' s'∧W n σ' H') ?_ m0 ⟨σ,H,I,w0⟩)
 rintro n s1 ⟨σ1,H1,I1,w1⟩
 refine wpAny_passesOwn hp (thn (hc pins s1 σ1 H1 _ I1 (turn n σ1 H1 w1)) fun b s2 ⟨H2,I2,q2⟩=>?_)
 cases b with
 | true=>
  obtain ⟨N,hN,q2⟩:=q2
  rw [if_pos rfl]
  refine wpAny_passesOwn hp (thn (hb pins s2 σ1 H2 _ I2 q2) fun f s3 q3=>?_)
  cases f with
  | next=>
   obtain ⟨σ3,H3,I3,n3⟩:=q3
   obtain ⟨m',hm,w3⟩:=hN σ3 H3 n3
   exact ⟨m',hm,σ3,H3,I3,w3⟩
  | cont=>
   obtain ⟨σ3,H3,I3,n3⟩:=q3
   obtain ⟨m',hm,w3⟩:=hN σ3 H3 n3
   exact ⟨m',hm,σ3,H3,I3,w3⟩
  | brk=>exact q3
  | ret v=>exact q3
 | false=>
  rw [if_neg Bool.false_ne_true]
  exact wpAny_execs_nil ⟨σ1,H2,I2,q2⟩
end
structure It where
 go:Nat→Hp→Prop
 yld:Nat→Hp→V→Hp→Prop
 stop:Nat→Hp→Prop
def FpOk (X:Cx) (pins:List (Addr × Obj)) (H:Hp) (b:Addr):Prop:=
 H b=none∧b≠X.env.locals∧b∉X.fs∧(b∈X.ex∨X.s₀.heap.objs.size≤b)∧(∀ x c,X.env.cells.lookup x=some c→c≠b)∧∀ p∈X.pn ++ pins,p.1≠b
theorem Inv.fpOk {X:Cx} {pins:List (Addr × Obj)} {σ:St} {H H':Hp} {s:Shared} {b:Addr} (I:Inv X pins σ H s) (hb:s.heap.objs.size≤b) (hn:H' b=none):FpOk X pins H' b:=by
 refine ⟨hn,Nat.ne_of_gt (Nat.lt_of_lt_of_le I.lt hb),I.nofs hb,.inr (Nat.le_trans I.sz hb),fun x c e z=>?_,fun p hp z=>?_⟩
 ·obtain ⟨v,q⟩:=I.cell x c e
  exact absurd (Nat.lt_of_lt_of_le q.lt (by rw [z]; exact hb)) (Nat.lt_irrefl _)
 ·exact absurd (Nat.lt_of_lt_of_le (Heap.lt_size (I.pin p hp).1) (by rw [z]; exact hb)) (Nat.lt_irrefl _)
structure Turn (P:Program) (w:World) (K:PySem.W.Frag) (tg:Expr) (J:It) (fp:List Addr) (it:Addr) (tn:Nat→Heap→Prop):Prop where
 mem:it∈fp
 obj:∀ i h,tn i h→∀ b∈fp,∃ o,h.get? b=some o∧∀ v,o.data≠.cell v
 keep:∀ i h h',tn i h→(∀ b∈fp,∀ o,h.get? b=some o→h'.get? b=some o)→tn i h'
 item:∀ (X:Cx),X.prog=P→X.w=w→X.K=K→X.calm=true→∀ (i:Nat) (pins:List (Addr × Obj)) (s:Shared) (σ:St) (H:Hp) (E:Value→Shared→Prop),Inv X pins σ H s→(∀ b∈fp,FpOk X pins H b)→tn i s.heap→J.go i H→
  wpAny (model P w) X.A (pyNext (.ref it)) (fun r s1=>∃ u,r=some u∧
   wpAny (model P w) X.A (letOwnedTupleGo tg (.ref it) u) (fun _ s2=>∃ x H',Inv X pins σ H' s2∧RelV x u∧J.yld i H x H'∧tn (i+1) s2.heap∧∀ b∈fp,H' b=none) E s1) E s
 done:∀ (X:Cx),X.prog=P→X.w=w→X.K=K→X.calm=true→∀ (i:Nat) (pins:List (Addr × Obj)) (s:Shared) (σ:St) (H:Hp) (E:Value→Shared→Prop),Inv X pins σ H s→(∀ b∈fp,FpOk X pins H b)→tn i s.heap→J.stop i H→
  wpAny (model P w) X.A (pyNext (.ref it)) (fun r s1=>r=none∧Inv X pins σ H s1) E s
 self:∀ (A:Around) (i:Nat) (s:Shared) (Q:Value→Shared→Prop) (E:Value→Shared→Prop),tn i s.heap→Q (.ref it) s→wpAny (model P w) A (pyIter (.ref it)) Q E s
abbrev TI:=St→Hp→(It→Hp→Prop)→Prop
def PIE (X:Cx) (pins:List (Addr × Obj)) (σ:St) (tg:Expr) (R:It→Hp→Prop) (itv:Value) (s2:Shared):Prop:=
 ∃ (it:Addr) (fp:List Addr) (tn:Nat→Heap→Prop) (J:It) (H':Hp),itv=.ref it∧Inv X pins σ H' s2∧Turn X.prog X.w X.K tg J fp it tn∧tn 0 s2.heap∧(∀ b∈fp,FpOk X pins H' b)∧R J H'
def PI (X:Cx) (tg iter:Expr) (wi:TI):Prop:=
 ∀ (pins:List (Addr × Obj)) (s:Shared) (σ:St) (H:Hp) (R:It→Hp→Prop),Inv X pins σ H s→wi σ H R→
  wpAny (model X.prog X.w) X.A (eval iter X.env) (fun v s1=>wpAny (model X.prog X.w) X.A (pyIter v) (PIE X pins σ tg R) X.xe s1) X.xe s
theorem go_of {M:Model} {A:Around} {E:Value→Shared→Prop} {s:Shared} {tg:Expr} {it:Addr} {u:Value} {o:Obj} {n:String} {vs:Array Value} {Q:Unit→Shared→Prop} (ho:s.heap.get? it=some o) (hc:o.cls=.type n) (hd:o.data=.fields vs)
  (hn:["enumerate","zip","dict_itemiterator","dict_reverseitemiterator","odict_iterator","itertools.zip_longest","itertools.pairwise"].contains n=false) (hQ:Q () s):wpAny M A (letOwnedTupleGo tg (.ref it) u) Q E s:=by
 unfold letOwnedTupleGo
 cases tg <;> first
  | exact wpAny_pure hQ
  | (cases u <;> first
    | exact wpAny_pure hQ
    | (refine wpAny_bind (wpAny_load ho ?_)
       rw [hc,hd]
       show wpAny M A (if (["enumerate","zip","dict_itemiterator","dict_reverseitemiterator","odict_iterator","itertools.zip_longest","itertools.pairwise"].contains n && vs[0]? == some (rawInt _))=true then _ else _) Q E s
       rw [if_neg (by intro h; rw [hn,Bool.false_and] at h; cases h)]
       exact wpAny_pure hQ))
def Itl (K:PySem.W.Frag) (a:Addr):It:=
 ⟨fun i H=>∃ xs x,SqL K H a xs∧xs[i]? = some x,fun i H x H'=>H'=H∧∀ xs,SqL K H a xs→xs[i]? = some x,fun i H=>∃ xs,SqL K H a xs∧xs.length≤i⟩
def Itt (K:PySem.W.Frag) (a:Addr):It:=
 ⟨fun i H=>∃ xs x,SqT K H a xs∧xs[i]? = some x,fun i H x H'=>H'=H∧∀ xs,SqT K H a xs→xs[i]? = some x,fun i H=>∃ xs,SqT K H a xs∧xs.length≤i⟩
def Itr (lo:Int) (n:Nat):It:=⟨fun i _=>i < n,fun i H x H'=>H'=H∧x=.int (lo+i),fun i _=>n≤i⟩
theorem turn_list {P:Program} {w:World} {K:PySem.W.Frag} {tg:Expr} (a it:Addr):Turn P w K tg (Itl K a) [it] it (fun i h=>h.IsListIter it a i) where
 mem:=by simp
 obj:=fun i h st b hb=>by
  have e:b=it:=by simpa using hb
  subst e
  obtain ⟨o,e,c,d⟩:=st
  exact ⟨o,e,fun v z=>by rw [d] at z; cases z⟩
 keep:=fun i h h' st k=>st.at fun o e=>k it (by simp) o e
 item:=by
  intro X hP hw hK hc i pins s σ H E I hf st hg
  subst hP hw hK
  obtain ⟨xs,x,hq,hx⟩:=hg
  obtain ⟨its,rv,p,hz⟩:=I.list hq
  obtain ⟨u,hu,ru⟩:=rv.get hx
  obtain ⟨f0,f1,f2,f3,f4,f5⟩:=hf it (by simp)
  refine wpAny_pyNext_list_item st p.isList (x:=u) (by simpa using hu) fun h' st' sb=>?_
  have I1:Inv X pins σ H { s with heap:=h' }:=I.turned (t':=s.toks) (fun b o hb e=>(sb.2 b hb).trans e) f0 f1 f3 f4 f5
  obtain ⟨o,e,c,d⟩:=id st'
  exact ⟨u,rfl,go_of (s:={ s with heap:=h' }) e c d (by decide) ⟨x,H,I1,ru,⟨rfl,fun ys hy=>by rw [I.list_inj hy hq]; exact hx⟩,st',fun b hb=>(hf b hb).1⟩⟩
 done:=by
  intro X hP hw hK hc i pins s σ H E I hf st hg
  subst hP hw hK
  obtain ⟨xs,hq,hx⟩:=hg
  obtain ⟨its,rv,p,hz⟩:=I.list hq
  obtain ⟨f0,f1,f2,f3,f4,f5⟩:=hf it (by simp)
  have hl:=rv.length
  exact wpAny_pyNext_list_end (I.ok.hd hc) st p.isList (by simp; omega) fun h' eb=>⟨rfl,I.turned (t':=s.toks) (fun b o hb e=>eb b o hb e) f0 f1 f3 f4 f5⟩
 self:=fun _ _ _ _ _ st h=>wpAny_pyIter_listiter st h
theorem turn_tuple {P:Program} {w:World} {K:PySem.W.Frag} {tg:Expr} (a it:Addr):Turn P w K tg (Itt K a) [it] it (fun i h=>h.IsTupleIter it a i) where
 mem:=by simp
 obj:=fun i h st b hb=>by
  have e:b=it:=by simpa using hb
  subst e
  obtain ⟨o,e,c,d⟩:=st
  exact ⟨o,e,fun v z=>by rw [d] at z; cases z⟩
 keep:=fun i h h' st k=>st.at fun o e=>k it (by simp) o e
 item:=by
  intro X hP hw hK hc i pins s σ H E I hf st hg
  subst hP hw hK
  obtain ⟨xs,x,hq,hx⟩:=hg
  obtain ⟨its,rv,p,hz⟩:=I.tuple hq
  obtain ⟨u,hu,ru⟩:=rv.get hx
  obtain ⟨f0,f1,f2,f3,f4,f5⟩:=hf it (by simp)
  refine wpAny_pyNext_tuple_item st (show s.heap.IsTuple a its.toArray from p) (x:=u) (by simpa using hu) fun h' st' sb=>?_
  have I1:Inv X pins σ H { s with heap:=h' }:=I.turned (t':=s.toks) (fun b o hb e=>(sb.2 b hb).trans e) f0 f1 f3 f4 f5
  obtain ⟨o,e,c,d⟩:=id st'
  exact ⟨u,rfl,go_of (s:={ s with heap:=h' }) e c d (by decide) ⟨x,H,I1,ru,⟨rfl,fun ys hy=>by rw [I.tuple_inj hy hq]; exact hx⟩,st',fun b hb=>(hf b hb).1⟩⟩
 done:=by
  intro X hP hw hK hc i pins s σ H E I hf st hg
  subst hP hw hK
  obtain ⟨xs,hq,hx⟩:=hg
  obtain ⟨its,rv,p,hz⟩:=I.tuple hq
  obtain ⟨f0,f1,f2,f3,f4,f5⟩:=hf it (by simp)
  have hl:=rv.length
  exact wpAny_pyNext_tuple_end (I.ok.hd hc) st (show s.heap.IsTuple a its.toArray from p) (by simp; omega) fun h' eb=>⟨rfl,I.turned (t':=s.toks) (fun b o hb e=>eb b o hb e) f0 f1 f3 f4 f5⟩
 self:=fun _ _ _ _ _ st h=>wpAny_pyIter_tupleiter st h
theorem turn_range {P:Program} {w:World} {K:PySem.W.Frag} {tg:Expr} (it:Addr) (lo:Int) (n:Nat):Turn P w K tg (Itr lo n) [it] it (fun i h=>IsRangeIter h it (lo+(i:Nat) * 1) ((n:Int) - (i:Nat)) 1) where
 mem:=by simp
 obj:=fun i h st b hb=>by
  have e:b=it:=by simpa using hb
  subst e
  exact ⟨_,st,fun v z=>by
   have z':Data.fields _=Data.cell v:=z
   cases z'⟩
 keep:=fun i h h' st k=>k it (by simp) _ st
 item:=by
  intro X hP hw hK hc i pins s σ H E I hf st hg
  subst hP hw hK
  obtain ⟨f0,f1,f2,f3,f4,f5⟩:=hf it (by simp)
  have W:=Walks.range (prog:=X.prog) (w:=X.w) (I.ok.hd hc) it lo 1 n
  refine W.item i s _ _ hg st fun v h' tk hv st' kk=>?_
  obtain ⟨t,rfl⟩:=hv
  have I1:Inv X pins σ H { s with heap:=h',toks:=tk }:=I.turned (fun b o hb e=>kk b o (by simpa using hb) e) f0 f1 f3 f4 f5
  refine ⟨_,rfl,go_of (s:={ s with heap:=h',toks:=tk }) (n:="range_iterator") st' rfl rfl (by decide) ⟨.int (lo+i),H,I1,⟨t,?_⟩,⟨rfl,rfl⟩,st',fun b hb=>(hf b hb).1⟩⟩
  rw [Int.mul_one]
 done:=by
  intro X hP hw hK hc i pins s σ H E I hf st hg
  subst hP hw hK
  obtain ⟨f0,f1,f2,f3,f4,f5⟩:=hf it (by simp)
  exact wpAny_pyNext_range_end (I.ok.hd hc) st (by have:n≤i:=hg; omega) fun h' eb=>⟨rfl,I.turned (t':=s.toks) (fun b o hb e=>eb b o hb e) f0 f1 f3 f4 f5⟩
 self:=fun _ _ _ _ _ st h=>wpAny_pyIter_rangeiter st h
end L2
namespace L2
open PySem PySem.Spec PyProof.Rows
section
variable {X:Cx} {tg:Expr}
inductive iListI (K:PySem.W.Frag) (R:It→Hp→Prop) (x:V) (H1:Hp):Prop
 | mk (a:_) (h1:x=.ref a) (h2:(∃ xs,SqL K H1 a xs)) (h3:R (Itl K a) H1):iListI K R x H1
def iList (K:PySem.W.Frag) (tl:TE):TI:=fun σ H R=>tl σ H fun x H1=>iListI K R x H1
inductive iTupI (K:PySem.W.Frag) (R:It→Hp→Prop) (x:V) (H1:Hp):Prop
 | mk (a:_) (h1:x=.ref a) (h2:(∃ xs,SqT K H1 a xs)) (h3:R (Itt K a) H1):iTupI K R x H1
def iTup (K:PySem.W.Frag) (tl:TE):TI:=fun σ H R=>tl σ H fun x H1=>iTupI K R x H1
theorem pi_list {l:Expr} {tl:TE} (hl:PE X l tl):PI X tg l (iList X.K tl):=by
 intro pins s σ H R I h
 refine thn (hl pins s σ H _ I h) fun v s1 ⟨x,H1,I1,r1,q1⟩=>?_
 obtain ⟨a,e,⟨xs,hq⟩,q⟩:=q1
 subst e
 cases r1
 obtain ⟨its,rv,p,hz⟩:=I1.list hq
 refine wpAny_pyIter_list p.isList ?_
 refine ⟨s1.heap.objs.size,[s1.heap.objs.size],_,_,H1,rfl,I1.kept (t':=s1.toks) fun b o e=>Heap.get?_push_of_some _ e,turn_list a _,⟨_,Heap.get?_push_size _ rfl,rfl,rfl⟩,fun b hb=>?_,q⟩
 have e:b=s1.heap.objs.size:=by simpa using hb
 subst e
 exact I1.fpOk (Nat.le_refl _) (I1.hok.fresh (Nat.le_refl _))
theorem pi_tup {l:Expr} {tl:TE} (hl:PE X l tl):PI X tg l (iTup X.K tl):=by
 intro pins s σ H R I h
 refine thn (hl pins s σ H _ I h) fun v s1 ⟨x,H1,I1,r1,q1⟩=>?_
 obtain ⟨a,e,⟨xs,hq⟩,q⟩:=q1
 subst e
 cases r1
 obtain ⟨its,rv,p,hz⟩:=I1.tuple hq
 refine wpAny_pyIter_tuple (show s1.heap.IsTuple a its.toArray from p) ?_
 refine ⟨s1.heap.objs.size,[s1.heap.objs.size],_,_,H1,rfl,I1.kept (t':=s1.toks) fun b o e=>Heap.get?_push_of_some _ e,turn_tuple a _,⟨_,Heap.get?_push_size _ rfl,rfl,rfl⟩,fun b hb=>?_,q⟩
 have e:b=s1.heap.objs.size:=by simpa using hb
 subst e
 exact I1.fpOk (Nat.le_refl _) (I1.hok.fresh (Nat.le_refl _))
theorem range_it {pins:List (Addr × Obj)} {σ:St} {H:Hp} {s:Shared} {R:It→Hp→Prop} {E:Value→Shared→Prop} {lo hi:Int} {t u v:Tok} {tk:Nat} (I:Inv X pins σ H s) (h1 : -(2 ^ 62)≤lo) (h2:lo < 2 ^ 62) (h3 : -(2 ^ 62)≤hi) (h4:hi < 2 ^ 62)
  (q:R (Itr lo (hi - lo).toNat) H):wpAny (model X.prog X.w) X.A (pyIter (.ref s.heap.objs.size)) (PIE X pins σ tg R) E { s with heap:=s.heap.push { cls:=.type "range",data:=.fields #[.int lo t,.int hi u,.int 1 v] },toks:=tk }:=by
 refine wpAny_pyIter_range (IsRange.new ..) (small_one h1 h2 h3 h4) ?_
 have I1:Inv X pins σ H { s with heap:=s.heap.push { cls:=.type "range",data:=.fields #[.int lo t,.int hi u,.int 1 v] },toks:=tk }:=I.kept fun b o e=>Heap.get?_push_of_some _ e
 refine ⟨(s.heap.push { cls:=.type "range",data:=.fields #[.int lo t,.int hi u,.int 1 v] }).objs.size,[(s.heap.push { cls:=.type "range",data:=.fields #[.int lo t,.int hi u,.int 1 v] }).objs.size],_,_,H,rfl,
  I1.kept (t':=tk) fun b o e=>Heap.get?_push_of_some _ e,turn_range _ lo (hi - lo).toNat,?_,fun b hb=>?_,q⟩
 ·have e1:lo+((0:Nat):Int) * 1=lo:=by simp
  have e2:(((hi - lo).toNat:Nat):Int) - ((0:Nat):Int)=Builtin.Range.rangeSize lo hi 1:=by rw [rangeSize_one]; split <;> omega
  show IsRangeIter _ _ (lo+((0:Nat):Int) * 1) ((((hi - lo).toNat:Nat):Int) - ((0:Nat):Int)) 1
  rw [e1,e2]
  exact Heap.get?_push_size _ rfl
 ·have e:b=(s.heap.push { cls:=.type "range",data:=.fields #[.int lo t,.int hi u,.int 1 v] }).objs.size:=by simpa using hb
  subst e
  exact I1.fpOk (Nat.le_refl _) (I1.hok.fresh (Nat.le_refl _))
inductive iRng1I (R:It→Hp→Prop) (vs:List V) (H1:Hp):Prop
 | mk (j:Int) (h1:vs=[.int j]) (h2 : -(2 ^ 62)≤j) (h3:j < 2 ^ 62) (h4:R (Itr 0 j.toNat) H1):iRng1I R vs H1
def iRng1 (ta:TA):TI:=fun σ H R=>ta σ H fun vs H1=>iRng1I R vs H1
theorem pi_range1 {a:Expr} {ta:TA} {p pos:Pos} (hg:Gl X "range") (hm:X.mg "range" = none) (ha:PA X [a] ta) (hs:starEach [a] X.env=[(false,eval a X.env)]:=by rfl):PI X tg (.Call (.Name "range" p) [a] [] pos) (iRng1 ta):=by
 intro pins s σ H R I h
 refine Call_ (ld_blt I hg hm boot_range (PyProof.Rows.callWith_type1 (thn (ha pos pins s σ H _ I h) fun us s1 ⟨vs,H1,I1,r1,q1⟩=>?_) hs rfl))
 obtain ⟨j,e,q1,q2,q⟩:=q1
 subst e
 cases r1 with
 | cons r rr=>
  cases rr
  obtain ⟨t,rfl⟩:=r
  exact call_range_1 (range_it I1 (by omega) (by omega) q1 q2 (by simpa using q))
def tFor (wi:TI) (g:TG) (tb:TS):TS:=fun D σ H=>wi σ H fun J H1=>∃ W:Nat→Nat→St→Hp→Prop,(∃ m,W 0 m σ H1)∧∀ i m σ H,W i m σ H→
 (J.stop i H∧D.nx σ H)∨(J.go i H∧∃ N:St→Hp→Prop,(∀ σ' H',N σ' H'→∃ m',m' < m∧W (i+1) m' σ' H')∧∀ x H',J.yld i H x H'→g x σ H' fun σ2 H2=>tb { D with nx:=N,ct:=N,bk:=D.nx } σ2 H2)
def pinsAt (fp:List Addr) (h:Heap):List (Addr × Obj):=fp.filterMap fun b=>(h.get? b).map fun o=>(b,o)
theorem mem_pinsAt {fp:List Addr} {h:Heap} {b:Addr} {o:Obj} (hb:b∈fp) (e:h.get? b=some o):(b,o)∈pinsAt fp h:=List.mem_filterMap.mpr ⟨b,hb,by rw [e]; rfl⟩
theorem of_pinsAt {fp:List Addr} {h:Heap} {p:Addr × Obj} (hp:p∈pinsAt fp h):p.1∈fp∧h.get? p.1=some p.2:=by
 obtain ⟨b,hb,e⟩:=List.mem_filterMap.mp hp
 cases q:h.get? b with
 | none=>rw [q] at e; cases e
 | some o=>
  rw [q] at e
  have e':(b,o)=p:=Option.some.inj e
  subst e'
  exact ⟨hb,q⟩
theorem Inv.pinned {pins:List (Addr × Obj)} {σ:St} {H:Hp} {s:Shared} {fp:List Addr} (I:Inv X pins σ H s) (hf:∀ b∈fp,FpOk X pins H b) (ho:∀ b∈fp,∃ o,s.heap.get? b=some o∧∀ v,o.data≠.cell v):Inv X (pins ++ pinsAt fp s.heap) σ H s:=
 I.pins_of fun p hp=>(List.mem_append.mp hp).elim (fun z=>I.pin p (List.mem_append_right _ z)) fun z=>by
  obtain ⟨hb,e⟩:=of_pinsAt z
  obtain ⟨f0,f1,f2,_⟩:=hf p.1 hb
  obtain ⟨o,e',d⟩:=ho p.1 hb
  rw [e] at e'; cases e'
  exact ⟨e,f0,f1,f2,d⟩
theorem Inv.unpinned {pins pl:List (Addr × Obj)} {σ:St} {H:Hp} {s:Shared} (I:Inv X (pins ++ pl) σ H s):Inv X pins σ H s:=I.pins_of fun p hp=>I.pin p (List.mem_append_right _ (List.mem_append_left _ hp))
theorem ps_for {iter:Expr} {body:List Stmt} {wi:TI} {g:TG} {tb:TS} {pos:Pos} (hp:PassesOwn (model X.prog X.w) X.A X.env X.xe) (hc:X.calm=true) (hi:PI X tg iter wi) (hg:PG X tg g) (hb:PSs X body tb)
  (hs:∀ x,foldedSetIterable iter X.env x=pure x:=by intro _; rfl):PS X (.For tg iter body [] pos) (tFor wi g tb):=by
 intro pins s σ H D I h
 refine wpAny_For (thn (hi pins s σ H _ I h) fun v s1 h1=>thn h1 fun itv s2 h2=>?_) hs
 obtain ⟨it,fp,tn,J,H2,e,I2,T,st2,f2,W,⟨m0,w0⟩,turn⟩:=h2
 subst e
 have stat:∀ {H':Hp},(∀ b∈fp,H' b=none)→∀ b∈fp,FpOk X pins H' b:=fun hn b hb=>⟨hn b hb,(f2 b hb).2⟩
 refine codeAny_forLoop_any (fun n s'=>∃ i σ' H',Inv X pins σ' H' s'∧tn i s'.heap∧(∀ b∈fp,H' b=none)∧W i n σ' H') ?_ m0 ⟨0,σ,H2,I2,st2,fun b hb=>(f2 b hb).1,w0⟩
 rintro n s3 ⟨i,σ3,H3,I3,st3,fr3,w3⟩
 rcases turn i n σ3 H3 w3 with ⟨stop,qn⟩ | ⟨go,N,hN,step⟩
 ·refine wpAny_passesOwn hp (thn (T.done X rfl rfl rfl hc i pins s3 σ3 H3 X.xe I3 (stat fr3) st3 stop) fun r s4 ⟨hr,I4⟩=>?_)
  subst hr
  exact wpAny_execs_nil ⟨σ3,H3,I4,qn⟩
 ·refine wpAny_passesOwn hp (thn (T.item X rfl rfl rfl hc i pins s3 σ3 H3 X.xe I3 (stat fr3) st3 go) fun r s4 ⟨u,hr,h4⟩=>?_)
  subst hr
  refine wpAny_passesOwn hp (thn h4 fun _ s5 ⟨x,H5,I5,r5,y5,st5,fr5⟩=>?_)
  have I5':=I5.pinned (stat fr5) (T.obj _ _ st5)
  refine wpAny_passesOwn hp (thn (hg _ s5 σ3 H5 x u _ I5' r5 (step x H5 y5)) fun _ s6 ⟨σ6,H6,I6,q6⟩=>?_)
  refine wpAny_passesOwn hp (thn (hb _ s6 σ6 H6 _ I6 q6) fun f s7 q7=>?_)
  have again:∀ {σ7:St} {H7:Hp},Inv X (pins ++ pinsAt fp s5.heap) σ7 H7 s7→N σ7 H7→∃ m,m < n∧∃ i σ' H',Inv X pins σ' H' s7∧tn i s7.heap∧(∀ b∈fp,H' b=none)∧W i m σ' H':=fun {σ7 H7} I7 n7=>by
   obtain ⟨m',hm,w7⟩:=hN σ7 H7 n7
   refine ⟨m',hm,i+1,σ7,H7,I7.unpinned,T.keep _ _ _ st5 fun b hb o e=>(I7.pin (b,o) (List.mem_append_right _ (List.mem_append_right _ (mem_pinsAt hb e)))).1,fun b hb=>?_,w7⟩
   obtain ⟨o,e,d⟩:=T.obj _ _ st5 b hb
   exact (I7.pin (b,o) (List.mem_append_right _ (List.mem_append_right _ (mem_pinsAt hb e)))).2.1
  cases f with
  | next=>obtain ⟨σ7,H7,I7,n7⟩:=q7; exact again I7 n7
  | cont=>obtain ⟨σ7,H7,I7,n7⟩:=q7; exact again I7 n7
  | brk=>obtain ⟨σ7,H7,I7,q7⟩:=q7; exact ⟨σ7,H7,I7.unpinned,q7⟩
  | ret v=>obtain ⟨x7,σ7,H7,I7,r7,q7⟩:=q7; exact ⟨x7,σ7,H7,I7.unpinned,r7,q7⟩
end
theorem for_list {K:PySem.W.Frag} {a:Addr} {xs:List V} {g:TG} {tb:TS} {D:Ends} {σ:St} {H:Hp} (Pv:Nat→St→Hp→Prop) (h0:Pv 0 σ H) (hl:∀ i σ H,i≤xs.length→Pv i σ H→SqL K H a xs)
  (hs:∀ i x σ H,xs[i]? = some x→Pv i σ H→g x σ H fun σ2 H2=>tb { D with nx:=Pv (i+1),ct:=Pv (i+1),bk:=D.nx } σ2 H2) (hd:∀ σ H,Pv xs.length σ H→D.nx σ H) :
  ∃ W:Nat→Nat→St→Hp→Prop,(∃ m,W 0 m σ H)∧∀ i m σ H,W i m σ H→
   ((Itl K a).stop i H∧D.nx σ H)∨((Itl K a).go i H∧∃ N:St→Hp→Prop,(∀ σ' H',N σ' H'→∃ m',m' < m∧W (i+1) m' σ' H')∧∀ x H',(Itl K a).yld i H x H'→g x σ H' fun σ2 H2=>tb { D with nx:=N,ct:=N,bk:=D.nx } σ2 H2):=by
 refine ⟨fun i m σ H=>m=xs.length - i∧i≤xs.length∧Pv i σ H,⟨xs.length,by simp,Nat.zero_le _,h0⟩,?_⟩
 rintro i m σ H ⟨rfl,hi,p⟩
 have q:=hl i σ H hi p
 by_cases hlt:i < xs.length
 ·refine .inr ⟨⟨xs,xs[i],q,by simp [hlt]⟩,Pv (i+1),fun σ' H' p'=>⟨xs.length - (i+1),by omega,rfl,hlt,p'⟩,fun x H' y=>?_⟩
  obtain ⟨e,y⟩:=y
  subst e
  exact hs i x σ _ (y xs q) p
 ·have e:i=xs.length:=by omega
  subst e
  exact .inl ⟨⟨xs,q,Nat.le_refl _⟩,hd σ H p⟩
theorem for_tup {K:PySem.W.Frag} {a:Addr} {xs:List V} {g:TG} {tb:TS} {D:Ends} {σ:St} {H:Hp} (Pv:Nat→St→Hp→Prop) (h0:Pv 0 σ H) (hl:∀ i σ H,i≤xs.length→Pv i σ H→SqT K H a xs)
  (hs:∀ i x σ H,xs[i]? = some x→Pv i σ H→g x σ H fun σ2 H2=>tb { D with nx:=Pv (i+1),ct:=Pv (i+1),bk:=D.nx } σ2 H2) (hd:∀ σ H,Pv xs.length σ H→D.nx σ H) :
  ∃ W:Nat→Nat→St→Hp→Prop,(∃ m,W 0 m σ H)∧∀ i m σ H,W i m σ H→
   ((Itt K a).stop i H∧D.nx σ H)∨((Itt K a).go i H∧∃ N:St→Hp→Prop,(∀ σ' H',N σ' H'→∃ m',m' < m∧W (i+1) m' σ' H')∧∀ x H',(Itt K a).yld i H x H'→g x σ H' fun σ2 H2=>tb { D with nx:=N,ct:=N,bk:=D.nx } σ2 H2):=by
 refine ⟨fun i m σ H=>m=xs.length - i∧i≤xs.length∧Pv i σ H,⟨xs.length,by simp,Nat.zero_le _,h0⟩,?_⟩
 rintro i m σ H ⟨rfl,hi,p⟩
 have q:=hl i σ H hi p
 by_cases hlt:i < xs.length
 ·refine .inr ⟨⟨xs,xs[i],q,by simp [hlt]⟩,Pv (i+1),fun σ' H' p'=>⟨xs.length - (i+1),by omega,rfl,hlt,p'⟩,fun x H' y=>?_⟩
  obtain ⟨e,y⟩:=y
  subst e
  exact hs i x σ _ (y xs q) p
 ·have e:i=xs.length:=by omega
  subst e
  exact .inl ⟨⟨xs,q,Nat.le_refl _⟩,hd σ H p⟩
theorem for_range {lo:Int} {n:Nat} {g:TG} {tb:TS} {D:Ends} {σ:St} {H:Hp} (Pv:Nat→St→Hp→Prop) (h0:Pv 0 σ H)
  (hs:∀ i σ H,i < n→Pv i σ H→g (.int (lo+i)) σ H fun σ2 H2=>tb { D with nx:=Pv (i+1),ct:=Pv (i+1),bk:=D.nx } σ2 H2) (hd:∀ σ H,Pv n σ H→D.nx σ H) :
  ∃ W:Nat→Nat→St→Hp→Prop,(∃ m,W 0 m σ H)∧∀ i m σ H,W i m σ H→
   ((Itr lo n).stop i H∧D.nx σ H)∨((Itr lo n).go i H∧∃ N:St→Hp→Prop,(∀ σ' H',N σ' H'→∃ m',m' < m∧W (i+1) m' σ' H')∧∀ x H',(Itr lo n).yld i H x H'→g x σ H' fun σ2 H2=>tb { D with nx:=N,ct:=N,bk:=D.nx } σ2 H2):=by
 refine ⟨fun i m σ H=>m=n - i∧i≤n∧Pv i σ H,⟨n,by simp,Nat.zero_le _,h0⟩,?_⟩
 rintro i m σ H ⟨rfl,hi,p⟩
 by_cases hlt:i < n
 ·refine .inr ⟨hlt,Pv (i+1),fun σ' H' p'=>⟨n - (i+1),by omega,rfl,hlt,p'⟩,fun x H' y=>?_⟩
  obtain ⟨e,y⟩:=y
  subst e y
  exact hs i σ _ hlt p
 ·have e:i=n:=by omega
  subst e
  exact .inl ⟨Nat.le_refl _,hd σ H p⟩
end L2
namespace L2
open PySem PySem.Spec PyProof.Rows
abbrev R2:=V→V→Hp→VK→Prop
def OpR (X:Cx) (f:Value→Value→Sem Value) (r:R2):Prop:=
 ∀ (pins:List (Addr × Obj)) (s:Shared) (σ:St) (H:Hp) (x y:V) (v u:Value) (Q:VK),Inv X pins σ H s→RelV x v→RelV y u→r x y H Q→
  wpAny (model X.prog X.w) X.A (f v u) (EP X pins σ Q) X.xe s
def CallR (X:Cx) (f:Value) (r:List V→Hp→VK→Prop):Prop:=
 ∀ (pins:List (Addr × Obj)) (s:Shared) (σ:St) (H:Hp) (xs:List V) (us:List Value) (Q:VK),Inv X pins σ H s→Vals xs us→r xs H Q→
  wpAny (model X.prog X.w) X.A (call f us) (EP X pins σ Q) X.xe s
def TruR (X:Cx) (r:V→Hp→(Bool→Hp→Prop)→Prop):Prop:=
 ∀ (pins:List (Addr × Obj)) (s:Shared) (σ:St) (H:Hp) (x:V) (v:Value) (Q:Bool→Hp→Prop),Inv X pins σ H s→RelV x v→r x H Q→
  wpAny (model X.prog X.w) X.A (truthy v) (TP X pins σ Q) X.xe s
def tOp (r:R2) (ta tb:TE):TE:=fun σ H Q=>ta σ H fun x H1=>tb σ H1 fun y H2=>r x y H2 Q
inductive rII (C:Int→Int→Prop) (g:Int→Int→V) (x:V) (y:V) (H:Hp) (Q:VK):Prop
 | mk (i j:_) (h1:x=.int i) (h2:y=.int j) (h3:C i j) (h4:Q (g i j) H):rII C g x y H Q
def rI (C:Int→Int→Prop) (g:Int→Int→V):R2:=fun x y H Q=>rII C g x y H Q
inductive rI0I (g:Int→Int→V) (x:V) (y:V) (H:Hp) (Q:VK):Prop
 | mk (i j:_) (h1:x=.int i) (h2:y=.int j) (h3:Q (g i j) H):rI0I g x y H Q
def rI0 (g:Int→Int→V):R2:=fun x y H Q=>rI0I g x y H Q
section
variable {X:Cx} {a b c:Expr} {ta tb tc:TE} {pos:Pos}
theorem binT (ha:PE X a ta) (hb:PE X b tb) {pins:List (Addr × Obj)} {s:Shared} {σ:St} {H:Hp} {R:V→V→Hp→Prop} (I:Inv X pins σ H s)
  (h:ta σ H fun x H1=>tb σ H1 fun y H2=>R x y H2) {Q:Value→Shared→Prop} {f:Value→Value→Sem Value}
  (hf:∀ v u s2 x y H2,Inv X pins σ H2 s2→RelV x v→RelV y u→R x y H2→wpAny (model X.prog X.w) X.A (f v u) Q X.xe s2) :
  wpAny (model X.prog X.w) X.A (eval a X.env) (fun v s₁=>wpAny (model X.prog X.w) X.A (eval b X.env) (fun u s₂=>wpAny (model X.prog X.w) X.A (f v u) Q X.xe s₂) X.xe s₁) X.xe s:=by
 refine thn (ha pins s σ H _ I h) fun v s1 ⟨x,H1,I1,r1,q1⟩=>?_
 refine thn (hb pins s1 σ H1 _ I1 q1) fun u s2 ⟨y,H2,I2,r2,q2⟩=>?_
 exact hf v u s2 x y H2 I2 r1 r2 q2
theorem pe_op {op:Operator} {r:R2} (ho:OpR X (binaryOp op) r) (ha:PE X a ta) (hb:PE X b tb):PE X (.BinOp a op b pos) (tOp r ta tb):=by
 intro pins s σ H Q I h
 exact wpAny_BinOp (binT ha hb I h fun v u s2 x y H2 I2 rx ry q=>ho pins s2 σ H2 x y v u Q I2 rx ry q)
theorem opI {f:Value→Value→Sem Value} {C:Int→Int→Prop} {g:Int→Int→Int}
  (rule:∀ (i j:Int) (t u:Tok) (s:Shared) (Q:Value→Shared→Prop) (E:Value→Shared→Prop),C i j→Q (.int (g i j) s.toks) { s with toks:=s.toks+1 }→wpAny (model X.prog X.w) X.A (f (.int i t) (.int j u)) Q E s) :
  OpR X f (rI C fun i j=>.int (g i j)):=by
 intro pins s σ H x y v u Q I rx ry h
 obtain ⟨i,j,rfl,rfl,hc,q⟩:=h
 obtain ⟨t,rfl⟩:=rx
 obtain ⟨t',rfl⟩:=ry
 exact rule i j t t' s _ _ hc ⟨.int (g i j),H,I.tok _,⟨_,rfl⟩,q⟩
theorem opI0 {f:Value→Value→Sem Value} {g:Int→Int→Int}
  (rule:∀ (i j:Int) (t u:Tok) (s:Shared) (Q:Value→Shared→Prop) (E:Value→Shared→Prop),Q (.int (g i j) s.toks) { s with toks:=s.toks+1 }→wpAny (model X.prog X.w) X.A (f (.int i t) (.int j u)) Q E s) :
  OpR X f (rI0 fun i j=>.int (g i j)):=by
 intro pins s σ H x y v u Q I rx ry h
 obtain ⟨i,j,rfl,rfl,q⟩:=h
 obtain ⟨t,rfl⟩:=rx
 obtain ⟨t',rfl⟩:=ry
 exact rule i j t t' s _ _ ⟨.int (g i j),H,I.tok _,⟨_,rfl⟩,q⟩
theorem opB0 {f:Value→Value→Sem Value} {g:Int→Int→Bool}
  (rule:∀ (i j:Int) (t u:Tok) (s:Shared) (Q:Value→Shared→Prop) (E:Value→Shared→Prop),Q (.bool (g i j)) s→wpAny (model X.prog X.w) X.A (f (.int i t) (.int j u)) Q E s) :
  OpR X f (rI0 fun i j=>.bl (g i j)):=by
 intro pins s σ H x y v u Q I rx ry h
 obtain ⟨i,j,rfl,rfl,q⟩:=h
 obtain ⟨t,rfl⟩:=rx
 obtain ⟨t',rfl⟩:=ry
 exact rule i j t t' s _ _ ⟨.bl (g i j),H,I,rfl,q⟩
def CDiv (i j:Int):Prop:=0 < j∧j < 1073741824
def CPow (i j:Int):Prop:=0≤j∧j≤1000000∧i.natAbs < 2 ^ 64
def CMul (i j:Int):Prop:=(-(2 ^ 64) < i∧i < 2 ^ 64)∨(-(2 ^ 64) < j∧j < 2 ^ 64)
theorem CMul.ok {i j:Int} (h:CMul i j):IntMulOk i j:=by
 rcases h with ⟨h1,h2⟩ | ⟨h1,h2⟩
 ·exact .of_left (intBits_le_64 h1 h2)
 ·exact .of_right (intBits_le_64 h1 h2)
theorem op_add:OpR X (binaryOp .Add) (rI0 fun i j=>.int (i+j)):=opI0 fun _ _ _ _ _ _ _ q=>add_int q
theorem op_sub:OpR X (binaryOp .Sub) (rI0 fun i j=>.int (i - j)):=opI0 fun _ _ _ _ _ _ _ q=>sub_int q
theorem op_mul:OpR X (binaryOp .Mult) (rI CMul fun i j=>.int (i * j)):=opI fun _ _ _ _ _ _ _ hc q=>mul_int q hc.ok
theorem op_fdiv:OpR X (binaryOp .FloorDiv) (rI CDiv fun i j=>.int (i / j)):=opI fun i j _ _ _ _ _ hc q=>by
 have h1:(0:Int) < j:=hc.1
 have h2:j < 1073741824:=hc.2
 exact floordiv_int (by omega) (by rw [Int.fdiv_eq_ediv_of_nonneg i (by omega)]; exact q) (.inl (PyProof.noPylong_small (by omega)))
theorem op_mod:OpR X (binaryOp .Mod) (rI (fun _ j=>0 < j) fun i j=>.int (i % j)):=opI fun i j _ _ _ _ _ hc q=>by
 have h1:(0:Int) < j:=hc
 exact mod_int' (by omega) (by rw [Int.fmod_eq_emod_of_nonneg i (by omega)]; exact q)
theorem op_pow:OpR X (binaryOp .Pow) (rI CPow fun i j=>.int (i ^ j.toNat)):=opI fun _ _ _ _ _ _ _ hc q=>pow_int_small hc.1 hc.2.1 hc.2.2 q
end
def scal:V→V→Bool
 | .non,.non=>true | .non,.int _=>true | .int _,.non=>true | .non,.bl _=>true | .bl _,.non=>true | .non,.str _=>true | .str _,.non=>true
 | .int _,.int _=>true | .bl _,.bl _=>true | .str _,.str _=>true | .byt _,.byt _=>true
 | .int _,.str _=>true | .str _,.int _=>true | .bl _,.str _=>true | .str _,.bl _=>true
 | _,_=>false
def rEq:R2:=fun x y H Q=>scal x y=true∧Q (.bl (decide (x=y))) H
def rNe:R2:=fun x y H Q=>scal x y=true∧Q (.bl (!decide (x=y))) H
theorem dec_int {i j:Int}:decide (V.int i=V.int j)=(i==j):=by
 rw [Bool.eq_iff_iff]
 simp
theorem dec_bl {i j:Bool}:decide (V.bl i=V.bl j)=(i==j):=by
 rw [Bool.eq_iff_iff]
 simp
theorem dec_str {i j:Str}:decide (V.str i=V.str j)=(i==j):=by
 rw [Bool.eq_iff_iff]
 simp
theorem dec_byt {i j:Array UInt8}:decide (V.byt i=V.byt j)=(i.toList==j.toList):=by
 rw [Bool.eq_iff_iff]
 cases i
 cases j
 simp
section
variable {X:Cx} {a b c:Expr} {ta tb tc:TE} {pos:Pos}
theorem fin_bl {pins:List (Addr × Obj)} {σ:St} {H:Hp} {s:Shared} {Q:VK} {k k':Bool} (I:Inv X pins σ H s) (q:Q (.bl k) H) (e:k=k'):EP X pins σ Q (.bool k') s:=by
 subst e
 exact ⟨.bl k,H,I,rfl,q⟩
theorem op_eq:OpR X (compareOp .Eq) rEq:=by
 intro pins s σ H x y v u Q I rx ry h
 obtain ⟨hs,q⟩:=h
 cases x with
 | non=>
  cases rx
  cases y with
  | non=>cases ry; exact PySem.EqNone.eq_none_none (fin_bl I q (by simp))
  | bl j=>cases ry; exact PySem.EqNone.eq_none_bool (fin_bl I q (by simp))
  | int j=>obtain ⟨t',rfl⟩:=ry; exact PySem.EqNone.eq_none_int (fin_bl I q (by simp))
  | str j=>obtain ⟨t',rfl⟩:=ry; exact PySem.EqNone.eq_none_str (fin_bl I q (by simp))
  | _=>exact absurd (show false=true from hs) Bool.false_ne_true
 | bl i=>
  cases rx
  cases y with
  | non=>cases ry; exact PySem.EqNone.eq_bool_none (fin_bl I q (by simp))
  | bl j=>cases ry; exact eq_bool (fin_bl I q dec_bl)
  | str j=>obtain ⟨t',rfl⟩:=ry; exact PySem.EqMixed.eq_bool_str (fin_bl I q (by simp))
  | _=>exact absurd (show false=true from hs) Bool.false_ne_true
 | int i=>
  obtain ⟨t,rfl⟩:=rx
  cases y with
  | non=>cases ry; exact PySem.EqNone.eq_int_none (fin_bl I q (by simp))
  | int j=>obtain ⟨t',rfl⟩:=ry; exact eq_int (fin_bl I q dec_int)
  | str j=>obtain ⟨t',rfl⟩:=ry; exact PySem.EqMixed.eq_int_str (fin_bl I q (by simp))
  | _=>exact absurd (show false=true from hs) Bool.false_ne_true
 | str i=>
  obtain ⟨t,rfl⟩:=rx
  cases y with
  | non=>cases ry; exact PySem.EqNone.eq_str_none (fin_bl I q (by simp))
  | bl j=>cases ry; exact PySem.EqMixed.eq_str_bool (fin_bl I q (by simp))
  | int j=>obtain ⟨t',rfl⟩:=ry; exact PySem.EqMixed.eq_str_int (fin_bl I q (by simp))
  | str j=>obtain ⟨t',rfl⟩:=ry; exact eq_str (fin_bl I q dec_str)
  | _=>exact absurd (show false=true from hs) Bool.false_ne_true
 | byt i=>
  obtain ⟨t,rfl⟩:=rx
  cases y with
  | byt j=>obtain ⟨t',rfl⟩:=ry; exact PySem.W.eq_bytes (fin_bl I q dec_byt)
  | _=>exact absurd (show false=true from hs) Bool.false_ne_true
 | _=>cases y <;> exact absurd (show false=true from hs) Bool.false_ne_true
theorem op_ne:OpR X (compareOp .NotEq) rNe:=by
 intro pins s σ H x y v u Q I rx ry h
 obtain ⟨hs,q⟩:=h
 cases x with
 | non=>
  cases rx
  cases y with
  | non=>cases ry; exact PySem.EqNone.ne_none_none (fin_bl I q (by simp))
  | bl j=>cases ry; exact PySem.EqNone.ne_none_bool (fin_bl I q (by simp))
  | int j=>obtain ⟨t',rfl⟩:=ry; exact PySem.EqNone.ne_none_int (fin_bl I q (by simp))
  | str j=>obtain ⟨t',rfl⟩:=ry; exact PySem.EqNone.ne_none_str (fin_bl I q (by simp))
  | _=>exact absurd (show false=true from hs) Bool.false_ne_true
 | bl i=>
  cases rx
  cases y with
  | non=>cases ry; exact PySem.EqNone.ne_bool_none (fin_bl I q (by simp))
  | bl j=>cases ry; exact ne_bool (fin_bl I q (congrArg not dec_bl))
  | str j=>obtain ⟨t',rfl⟩:=ry; exact PySem.EqMixed.ne_bool_str (fin_bl I q (by simp))
  | _=>exact absurd (show false=true from hs) Bool.false_ne_true
 | int i=>
  obtain ⟨t,rfl⟩:=rx
  cases y with
  | non=>cases ry; exact PySem.EqNone.ne_int_none (fin_bl I q (by simp))
  | int j=>obtain ⟨t',rfl⟩:=ry; exact ne_int (fin_bl I q (congrArg not dec_int))
  | str j=>obtain ⟨t',rfl⟩:=ry; exact PySem.EqMixed.ne_int_str (fin_bl I q (by simp))
  | _=>exact absurd (show false=true from hs) Bool.false_ne_true
 | str i=>
  obtain ⟨t,rfl⟩:=rx
  cases y with
  | non=>cases ry; exact PySem.EqNone.ne_str_none (fin_bl I q (by simp))
  | bl j=>cases ry; exact PySem.EqMixed.ne_str_bool (fin_bl I q (by simp))
  | int j=>obtain ⟨t',rfl⟩:=ry; exact PySem.EqMixed.ne_str_int (fin_bl I q (by simp))
  | str j=>obtain ⟨t',rfl⟩:=ry; exact ne_str (fin_bl I q (congrArg not dec_str))
  | _=>exact absurd (show false=true from hs) Bool.false_ne_true
 | byt i=>
  obtain ⟨t,rfl⟩:=rx
  cases y with
  | byt j=>obtain ⟨t',rfl⟩:=ry; exact PySem.W.ne_bytes (fin_bl I q (congrArg not dec_byt))
  | _=>exact absurd (show false=true from hs) Bool.false_ne_true
 | _=>cases y <;> exact absurd (show false=true from hs) Bool.false_ne_true
theorem op_lt:OpR X (compareOp .Lt) (rI0 fun i j=>.bl (decide (i < j))):=opB0 fun _ _ _ _ _ _ _ q=>lt_int q
theorem op_gt:OpR X (compareOp .Gt) (rI0 fun i j=>.bl (decide (j < i))):=opB0 fun _ _ _ _ _ _ _ q=>gt_int q
theorem op_ge:OpR X (compareOp .GtE) (rI0 fun i j=>.bl (decide (j≤i))):=opB0 fun _ _ _ _ _ _ _ q=>ge_int q
theorem op_isN:OpR X (compareOp .Is) (fun x y H Q=>y=.non∧Q (.bl (decide (x=.non))) H):=by
 intro pins s σ H x y v u Q I rx ry h
 obtain ⟨rfl,q⟩:=h
 cases ry
 refine is_none_gen (fin_bl I q ?_)
 cases x <;> first
  | (cases rx; rfl)
  | (obtain ⟨t,rfl⟩:=rx; rfl)
theorem nomark (b:Expr) {op:CmpOp} (h:op≠.In:=by decide) (h2:op≠.NotIn:=by decide):behindInMarks op b=false:=by
 have e1:(op==CmpOp.In)=false:=by cases op <;> first | rfl | exact absurd rfl h
 have e2:(op==CmpOp.NotIn)=false:=by cases op <;> first | rfl | exact absurd rfl h2
 cases b <;> simp [behindInMarks,e1,e2]
theorem pe_cmpR {op:CmpOp} {r:R2} (ho:OpR X (compareOp op) r) (ha:PE X a ta) (hb:PE X b tb) (hm:behindInMarks op b=false):PE X (.Compare a [op] [b] pos) (tOp r ta tb):=by
 intro pins s σ H Q I h
 exact wpAny_Compare1 (binT ha hb I h fun v u s2 x y H2 I2 rx ry q=>ho pins s2 σ H2 x y v u Q I2 rx ry q) hm
inductive tTestI (Q:Bool→Hp→Prop) (x:V) (H':Hp):Prop
 | mk (k:_) (h1:x=.bl k) (h2:Q k H'):tTestI Q x H'
def tTest (t:TE):TT:=fun σ H Q=>t σ H fun x H'=>tTestI Q x H'
theorem pt_cmpR {op:CmpOp} {r:R2} (ho:OpR X (compareOp op) r) (ha:PE X a ta) (hb:PE X b tb) (hm:behindInMarks op b=false):PT X (.Compare a [op] [b] pos) (tTest (tOp r ta tb)):=by
 intro pins s σ H Q I h
 refine wpAny_isTrue_Compare1 (thn (ha pins s σ H _ I h) fun v s1 ⟨x,H1,I1,r1,q1⟩=>thn (hb pins s1 σ H1 _ I1 q1) fun u s2 ⟨y,H2,I2,r2,q2⟩=>
  thn (ho pins s2 σ H2 x y v u _ I2 r1 r2 q2) fun c s3 ⟨z,H3,I3,r3,k,e,q3⟩=>?_) hm
 subst e
 cases r3
 exact wpAny_truthy_bool ⟨H3,I3,q3⟩
def TruV (K:PySem.W.Frag) (x:V) (H:Hp) (k:Bool):Prop:=
 match x with
 | .non=>k=false
 | .bl b=>k=b
 | .int i=>k=(i != 0)
 | .str y=>y.length≤sizeLine∧k=((y.length:Int) != 0)
 | .byt y=>y.size≤sizeLine∧k=((y.size:Int) != 0)
 | .ref p=>(∃ xs,SqL K H p xs∧k = !xs.isEmpty)∨(∃ xs,SqT K H p xs∧k = !xs.isEmpty)∨∃ kvs,H p=some (.dK kvs)∧k = !kvs.isEmpty
 | _=>False
theorem isEmpty_kv {κ:Type} {kvs:List (κ × V)} {vs:List (κ × Value)} (r:KV kvs vs):(!vs.isEmpty) = !kvs.isEmpty:=by
 cases r <;> rfl
theorem isEmpty_of {xs:List V} {its:List Value} (r:Vals xs its):(!its.toArray.isEmpty) = !xs.isEmpty:=by
 cases r <;> simp
theorem line63:(sizeLine:Nat) < 2 ^ 63:=by rw [sizeLine_eq]; decide
theorem tru_ok:TruR X (fun x H Q=>∃ k,TruV X.K x H k∧Q k H):=by
 intro pins s σ H x v Q I rx h
 obtain ⟨k,e,q⟩:=h
 have hl:=line63
 have hs:sizeLine=16777216:=sizeLine_eq
 cases x with
 | non=>
  cases rx
  have e':k=false:=e
  subst e'
  exact truthy_none ⟨H,I,q⟩
 | bl b=>
  cases rx
  have e':k=b:=e
  subst e'
  exact wpAny_truthy_bool ⟨H,I,q⟩
 | int i=>
  obtain ⟨t,rfl⟩:=rx
  have e':k=(i != 0):=e
  subst e'
  exact PySem.P.truthy_int ⟨H,I,q⟩
 | str y=>
  obtain ⟨t,rfl⟩:=rx
  obtain ⟨hy,e'⟩:y.length≤sizeLine∧k=((y.length:Int) != 0):=e
  subst e'
  exact PySem.P.truthy_str (by omega) ⟨H,I.tok _,q⟩
 | byt y=>
  obtain ⟨t,rfl⟩:=rx
  obtain ⟨hy,e'⟩:y.size≤sizeLine∧k=((y.size:Int) != 0):=e
  subst e'
  exact PySem.W.truthy_bytes (by omega) ⟨H,I.tok _,q⟩
 | ref p=>
  cases rx
  have e':(∃ xs,SqL X.K H p xs∧k = !xs.isEmpty)∨(∃ xs,SqT X.K H p xs∧k = !xs.isEmpty)∨∃ kvs,H p=some (.dK kvs)∧k = !kvs.isEmpty:=e
  rcases e' with ⟨xs,hx,e'⟩ | ⟨xs,hx,e'⟩ | ⟨kvs,hx,e'⟩
  ·subst e'
   obtain ⟨its,r,pl,hz⟩:=I.list hx
   have hlen:=r.length
   exact wpAny_truthy_list pl.isList (by simp only [List.size_toArray]; omega) ⟨H,I.tok _,by rw [isEmpty_of r]; exact q⟩
  ·subst e'
   obtain ⟨its,r,pl,hz⟩:=I.tuple hx
   have hlen:=r.length
   exact truthy_tuple pl (by simp only [List.size_toArray]; omega) ⟨H,I.tok _,by rw [isEmpty_of r]; exact q⟩
  ·subst e'
   obtain ⟨hz,hS,vs,r,m⟩:kvs.length≤sizeLine∧(p==sysModules)=false∧∃ vs,KV kvs vs∧s.heap.DictOf (mixKind X.prog X.w) p vs:=I.hok p _ hx
   have hlen:kvs.length=vs.length:=Paired.length r
   exact wpAny_truthy_dict hS m (by omega) ⟨H,I.tok _,by rw [isEmpty_kv r]; exact q⟩
 | _=>exact (show False from e).elim
theorem pt_truth (ha:PE X a ta) (he:∀ whole,isTrue a X.env whole=(do let v ← whole; standAt a.pos; holding [v] (truthy v))) :
  PT X a (fun σ H Q=>ta σ H fun x H'=>∃ k,TruV X.K x H' k∧Q k H'):=by
 intro pins s σ H Q I h
 exact isTrue_plain (thn (ha pins s σ H _ I h) fun v s1 ⟨x,H1,I1,r1,q1⟩=>tru_ok pins s1 σ H1 x v Q I1 r1 q1) (he _)
theorem op_add_str:OpR X (binaryOp .Add) (fun x y H Q=>∃ i j,x=.str i∧y=.str j∧i.length+j.length≤sizeLine∧Q (.str (i ++ j)) H):=by
 intro pins s σ H x y v u Q I rx ry h
 obtain ⟨i,j,rfl,rfl,hz,q⟩:=h
 obtain ⟨t,rfl⟩:=rx
 obtain ⟨t',rfl⟩:=ry
 exact add_str (fun t' tk=>⟨.str (i ++ j),H,I.tok _,⟨_,rfl⟩,q⟩) hz
theorem vals1 {x:V} {us:List Value} (r:Vals [x] us):∃ u,us=[u]∧RelV x u:=by
 cases r with
 | cons r1 r2=>cases r2; exact ⟨_,rfl,r1⟩
theorem call_int1:CallR X (.type "int") (fun xs H Q=>(∃ i,xs=[.int i]∧Q (.int i) H)∨∃ k,xs=[.bl k]∧Q (.int (if k then 1 else 0)) H):=by
 intro pins s σ H xs us Q I r h
 rcases h with ⟨i,rfl,q⟩ | ⟨k,rfl,q⟩
 ·obtain ⟨u,rfl,t,rfl⟩:=vals1 r
  exact call_int_int ⟨.int i,H,I,⟨_,rfl⟩,q⟩
 ·obtain ⟨u,rfl,r1⟩:=vals1 r
  cases r1
  exact call_int_bool ⟨.int (if k then 1 else 0),H,I.tok _,⟨_,rfl⟩,q⟩
end
end L2
namespace L2
open PySem PySem.Spec PyProof.Rows
section
variable {prog:Program} {w:World} {A:Around} {E:Value→Shared→Prop} {s:Shared} {K:PySem.W.Frag} {x dx C f:Addr} {mA:Str→Option Value} {name:Str} {v:Value}
end
theorem RelO.some_of {v:V} {o:Option Value} (r:RelO (some v) o):∃ u,o=some u∧RelV v u:=by
 cases o with
 | none=>exact (show False from r).elim
 | some u=>exact ⟨u,rfl,r⟩
section
variable {P:Program} {w:World} {H H':Hp} {h h':Heap} {a C dx:Addr} {fs fs':List (Str × V)}
end
section
variable {X:Cx} {pins:List (Addr × Obj)} {σ:St} {H:Hp} {s:Shared} {a C dx:Addr} {fs:List (Str × V)} {f:Str} {v:V} {A:Around} {E:Value→Shared→Prop}
end
section
variable {X:Cx} {o e value:Expr} {f:Str} {pos pos' tpos:Pos} {ta tv:TE}
end
section
variable {X:Cx} {pins:List (Addr × Obj)} {σ:St} {H:Hp} {s:Shared} {A:Around} {E:Value→Shared→Prop} {Q:Value→Shared→Prop} {c:Value} {b:Bool}
end
end L2
namespace L2
open PySem PySem.Spec PyProof.Rows
structure Room (k:Nat) (A:Around):Prop where
 hd:A.handled=none
 dp:A.depth+3 * k+5 < recursionLimit
 un:A.units+16 * k+200 < cLine
theorem Room.mono {j k:Nat} {A:Around} (r:Room k A) (h:j≤k):Room j A:=⟨r.hd,by have:=r.dp; omega,by have:=r.un; omega⟩
theorem Room.deeper {k:Nat} {A:Around} (r:Room (k+1) A) (env:Env):Room k (A.deeper env):=
 ⟨r.hd,by have:=r.dp; show A.depth+1+3 * k+5 < _; omega,by have:=r.un; show A.units+3+16 * k+200 < _; omega⟩
theorem Room.depth {k:Nat} {A:Around} (r:Room k A):A.depth < recursionLimit:=by have:=r.dp; omega
theorem Room.units {k:Nat} {A:Around} (r:Room k A):A.units+64 < cLine:=by have:=r.un; omega
def tNil:TA:=fun _ H Q=>Q [] H
def tCons (ta:TE) (tr:TA):TA:=fun σ H Q=>ta σ H fun x H1=>tr σ H1 fun xs H2=>Q (x :: xs) H2
section
variable {X:Cx} {e:Expr} {es:List Expr} {te:TE} {t:TA} {pos:Pos}
theorem pa_nil:PA X [] tNil:=fun _ _ _ _ H Q I h=>Calls.spliced_nil ⟨[],H,I,.nil,h⟩
theorem pa_cons (ha:PE X e te) (hr:PA X es t) (hs:starEach (e :: es) X.env=(false,eval e X.env) :: starEach es X.env:=by rfl):PA X (e :: es) (tCons te t):=by
 intro pos pins s σ H Q I h
 rw [hs]
 show wpAny _ _ (spliced ((false,eval e X.env) :: backTo pos (starEach es X.env))) _ _ s
 refine Calls.spliced_cons (thn (ha pins s σ H _ I h) fun u s1 ⟨x,H1,I1,r1,q1⟩=>?_)
 exact thn (hr pos pins s1 σ H1 _ I1 q1) fun us s2 ⟨xs,H2,I2,r2,q2⟩=>⟨x :: xs,H2,I2,.cons r1 r2,q2⟩
def tTup (t:TA):TE:=fun σ H Q=>t σ H fun xs H1=>xs.length≤sizeLine∧∀ p,H1 p=none→Q (.ref p) (upd H1 p (.tup xs))
def tLst (t:TA):TE:=fun σ H Q=>t σ H fun xs H1=>xs.length≤sizeLine∧∀ p,H1 p=none→Q (.ref p) (upd H1 p (.lst xs))
theorem pe_tup {x1} (h:PA X es t):PE X (.Tuple es x1 pos) (tTup t):=by
 intro pins s σ H Q I hq
 refine wpAny_Tuple_spliced (thn (h pos pins s σ H _ I hq) fun us s1 ⟨xs,H1,I1,r,z,q⟩=>⟨by rw [← r.length]; exact z,?_⟩)
 have hf:H1 s1.heap.objs.size=none:=I1.hok.fresh (Nat.le_refl _)
 refine ⟨.ref s1.heap.objs.size,upd H1 s1.heap.objs.size (.tup xs),I1.laid (t':=s1.toks) (fun b u e=>Heap.get?_push_of_some _ e) (Nat.le_refl _) ?_,rfl,q _ hf⟩
 exact ⟨z,us,r,⟨_,Heap.get?_push_size _ rfl,rfl,_,rfl⟩⟩
theorem pe_lst (h:PA X es t):PE X (.List es pos) (tLst t):=by
 intro pins s σ H Q I hq
 refine wpAny_List_spliced (thn (h pos pins s σ H _ I hq) fun us s1 ⟨xs,H1,I1,r,z,q⟩=>⟨by rw [← r.length]; exact z,?_⟩)
 have hf:H1 s1.heap.objs.size=none:=I1.hok.fresh (Nat.le_refl _)
 refine ⟨.ref s1.heap.objs.size,upd H1 s1.heap.objs.size (.lst xs),I1.laid (t':=s1.toks) (fun b u e=>Heap.get?_push_of_some _ e) (Nat.le_refl _) ?_,rfl,q _ hf⟩
 exact ⟨z,us,0,r,Heap.get?_push_size _ rfl⟩
end
abbrev Sp:=List V→Hp→VK→XK→Prop
abbrev CXT:=List Env→Hp→Shared→XK→Value→Shared→Prop
structure Env0 (P:Program) (w:World) (K:PySem.W.Frag) (mg:Str→Option Value) (base:Heap) (A:Around) (outer:List Env) (s:Shared) (H:Hp):Prop where
 frames:A.frames=some outer
 mod:Mod K mg base
 bs:∀ b o,base.get? b=some o→s.heap.get? b=some o∧H b=none
 bsz:base.objs.size≤s.heap.objs.size
 funs:s.heap.FunFrames base outer
 frf:∀ b∈frs outer,H b=none
 hok:HOk P w H s.heap
 bare:AllBare s.gens
def CE (outer:List Env) (P:Program) (w:World) (H:Hp) (s:Shared) (Q:VK) (u:Value) (s':Shared):Prop:=
 ∃ v H',s'.os=s.os∧AllBare s'.gens∧Un (frs outer) [] H H' s.heap s'.heap∧HOk P w H' s'.heap∧RelV v u∧Q v H'
def CR (CX:CXT) (outer:List Env) (P:Program) (w:World) (H:Hp) (s:Shared) (Q:VK) (E:XK) (r:Result) (s':Shared):Prop:=
 match r with
 | .ok (.ret u)=>CE outer P w H s Q u s'
 | .ok _=>False
 | .error e=>CX outer H s E e s'
structure FnOk (P:Program) (w:World) (K:PySem.W.Frag) (mg:Str→Option Value) (base:Heap) (CX:CXT) (k:Nat) (f:Addr) (fd:FuncData) (ps:List Str) (sp:Sp):Prop where
 len:∀ vs H Q E,sp vs H Q E→vs.length=ps.length
 run:∀ (A:Around) (outer:List Env) (s:Shared) (H:Hp) (args:Args) (us:List Value) (vs:List V) (Q:VK) (E:XK),Room k A→Env0 P w K mg base A outer s H→BindsTo s fd args (ps.zip us)→Vals vs us→sp vs H Q E→
  codeAny (model P w) A (.call (.ref f) args) (CR CX outer P w H s Q E) s
theorem FnOk.mono {P:Program} {w:World} {K:PySem.W.Frag} {mg:Str→Option Value} {base:Heap} {CX:CXT} {j k:Nat} {f:Addr} {fd:FuncData} {ps:List Str} {sp:Sp} (F:FnOk P w K mg base CX j f fd ps sp) (h:j≤k) :
  FnOk P w K mg base CX k f fd ps sp:=⟨F.len,fun A outer s H args us vs Q E hr=>F.run A outer s H args us vs Q E (hr.mono h)⟩
theorem FnOk.imp {P:Program} {w:World} {K:PySem.W.Frag} {mg:Str→Option Value} {base:Heap} {CX:CXT} {k:Nat} {f:Addr} {fd:FuncData} {ps:List Str} {sp sp':Sp} (F:FnOk P w K mg base CX k f fd ps sp)
  (h:∀ vs H Q E,sp' vs H Q E→sp vs H Q E):FnOk P w K mg base CX k f fd ps sp':=
 ⟨fun vs H Q E q=>F.len vs H Q E (h _ _ _ _ q),fun A outer s H args us vs Q E hr he hb hv hs=>F.run A outer s H args us vs Q E hr he hb hv (h _ _ _ _ hs)⟩
section
variable {X:Cx} {pins:List (Addr × Obj)} {σ:St} {H:Hp} {s s':Shared}
theorem Inv.env0 (I:Inv X pins σ H s):Env0 X.prog X.w X.K X.mg X.base X.A X.stack s H:=
 ⟨I.ok.frames,I.ok.mod,I.bs,Nat.le_trans I.ok.bsz I.sz,I.stack,I.stkFree,I.hok,I.bare⟩
theorem Inv.after {Q:VK} {u:Value} (I:Inv X pins σ H s) (h:CE X.stack X.prog X.w H s Q u s'):EP X pins σ Q u s':=by
 obtain ⟨v,H',os,bare,un,hok,r,q⟩:=h
 obtain ⟨hh,g,d,t,os'⟩:=s'
 obtain rfl:os'=s.os:=os
 exact ⟨v,H',I.call (h':=hh) (g':=g) (d':=d) (t':=t) (ch:=[]) un hok bare (fun b z=>absurd z (by simp)),r,q⟩
end
def tCall (sp:Sp) (dvs:List V) (E:XK) (t:TA):TE:=fun σ H Q=>t σ H fun vs H1=>sp (vs ++ dvs) H1 Q E
def Binds (K:PySem.W.Frag) (fd:FuncData) (ps:List Str) (ds:List Value):Prop:=
 ∀ (s:Shared) (us:List Value),K.In s.heap→(us ++ ds).length=ps.length→BindsTo s fd ⟨us,[]⟩ (ps.zip (us ++ ds))
theorem Binds.all {K:PySem.W.Frag} {fd:FuncData} {ps:List Str} (h:∀ us:List Value,us.length=ps.length→bindArgs fd ⟨us,[]⟩=pure (ps.zip us)):Binds K fd ps []:=fun s us _ hl=>by
 rw [List.append_nil] at hl ⊢
 exact .of_eq (h us hl)
def Passes (CX:CXT) (X:Cx) (E:XK):Prop:=∀ (pins:List (Addr × Obj)) (σ:St) (H:Hp) (s:Shared) (e:Value) (s':Shared),Inv X pins σ H s→CX X.stack H s E e s'→X.xe e s'
section
variable {X:Cx} {CX:CXT} {k:Nat} {f C:Addr} {fd:FuncData} {ps:List Str} {sp:Sp} {dvs:List V} {ds:List Value} {E:XK} {x m:Str} {p pos apos:Pos} {e o:Expr} {es:List Expr} {ta:TE} {t:TA}
theorem run_fn {pins:List (Addr × Obj)} {σ:St} {H:Hp} {s:Shared} {Q:VK} {us:List Value} {vs:List V} (F:FnOk X.prog X.w X.K X.mg X.base CX k f fd ps sp) (hr:Room k X.A) (hb:Binds X.K fd ps ds) (hd:Vals dvs ds) (hx:Passes CX X E)
  (I:Inv X pins σ H s) (r:Vals vs us) (h:sp (vs ++ dvs) H Q E):wpAny (model X.prog X.w) X.A (call (.ref f) us) (EP X pins σ Q) X.xe s:=by
 have r2:Vals (vs ++ dvs) (us ++ ds):=r.append hd
 have hl:(us ++ ds).length=ps.length:=by rw [← r2.length]; exact F.len _ _ _ _ h
 refine wpAny_call (codeAny_mono (F.run X.A X.stack s H ⟨us,[]⟩ (us ++ ds) (vs ++ dvs) Q E hr I.env0 (hb s us I.kIn hl) r2 h) fun r s' hq=>?_)
 cases r with
 | error e=>exact hx pins σ H s e s' I hq
 | ok fl=>
  cases fl with
  | ret u=>exact I.after hq
  | next=>exact False.elim hq
  | brk=>exact False.elim hq
  | cont=>exact False.elim hq
theorem pe_call (F:FnOk X.prog X.w X.K X.mg X.base CX k f fd ps sp) (hr:Room k X.A) (hg:Gl X x) (hm:X.mg x=some (.ref f)) (hk:PySem.W.keepIn X.K (.ref f)=true) (hb:Binds X.K fd ps ds) (hd:Vals dvs ds) (hx:Passes CX X E)
  (ha:PA X (e :: es) t) (hdb:(x==("__debug__" : Str))=false:=by decide) (he:starEach (e :: es) X.env=(false,eval e X.env) :: starEach es X.env:=by rfl) (hpl:(backTo pos (starEach es X.env)).any (·.1)=false:=by rfl) :
  PE X (.Call (.Name x p) (e :: es) [] pos) (tCall sp dvs E t):=by
 intro pins s σ H Q I h
 refine wpAny_Call_Name_kw (ld_glob I hg hm ?_ hdb)
 refine PySem.W.callWith_K (h₀:=X.base) I.ok.mod.kin hk (thn (ha pos pins s σ H _ I h) fun us s1 ⟨vs,H1,I1,r,q⟩=>⟨I1.kIn,?_⟩) he hpl
 exact run_fn F hr hb hd hx I1 r q
end
section
variable {X:Cx} {CX:CXT} {k:Nat} {f C:Addr} {fd:FuncData} {ps ks:List Str} {sp:Sp} {E:XK} {x m:Str} {p pos apos kpos:Pos} {e o:Expr} {es:List Expr} {kws:List Keyword} {te ta:TE} {t tk:TA} {nm:Option Str}
variable {g:List Value→List Value→List Value} {gV:List V→List V→List V}
end
structure FnScope (N P:List Str) (sc:Scope):Prop where
 kind:sc.kind=.function
 co:sc.isCoroutine=false
 gen:sc.isGenerator=false
 nd:N.Nodup
 pre:N.take P.length=P
 par:∀ x∈P,sc.names.lookup x=some .local∨sc.names.lookup x=some .cell
 nofree:∀ y∈sc.names,y.2≠.free
theorem bindL_out {kindOf:Str→Option NameKind} {x:Str}:∀ {binds:List (Str × Value)} {m:Str→Option Value},(∀ v,(x,v)∉binds)→bindL kindOf binds m x=m x
 | [],_,_=>rfl
 | (n,v) :: r,m,h=>by
  unfold bindL
  rw [bindL_out fun w hw=>h w (List.mem_cons_of_mem _ hw)]
  split
  ·have:x≠n:=by rintro rfl; exact h v List.mem_cons_self
   simp [this]
  ·rfl
theorem bindC_out {kindOf:Str→Option NameKind} {x:Str}:∀ {binds:List (Str × Value)} {m:Str→Option Value},(∀ v,(x,v)∉binds)→bindC kindOf binds m x=m x
 | [],_,_=>rfl
 | (n,v) :: r,m,h=>by
  unfold bindC
  rw [bindC_out fun w hw=>h w (List.mem_cons_of_mem _ hw)]
  split
  ·rfl
  ·have:x≠n:=by rintro rfl; exact h v List.mem_cons_self
   simp [this]
theorem bindL_get {kindOf:Str→Option NameKind} {x:Str} {v:Value}:∀ {P:List Str} {vs:List Value} {i:Nat} {m:Str→Option Value},P.Nodup→P[i]? = some x→vs[i]? = some v→kindOf x=some .local→
  bindL kindOf (P.zip vs) m x=some v
 | [],_,_,_,_,h,_,_=>by simp at h
 | _ :: _,[],_,_,_,_,h,_=>by simp at h
 | p :: P,w :: vs,0,m,nd,h1,h2,hk=>by
  simp at h1 h2; subst h1; subst h2
  show bindL kindOf ((p,w) :: P.zip vs) m p=_
  unfold bindL
  rw [bindL_out fun v hv=>(List.nodup_cons.mp nd).1 (List.of_mem_zip hv).1,if_pos hk]
  simp
 | p :: P,w :: vs,i+1,m,nd,h1,h2,hk=>by
  show bindL kindOf ((p,w) :: P.zip vs) m x=_
  unfold bindL
  exact bindL_get (i:=i) (List.nodup_cons.mp nd).2 (by simpa using h1) (by simpa using h2) hk
theorem bindC_get {kindOf:Str→Option NameKind} {x:Str} {v:Value}:∀ {P:List Str} {vs:List Value} {i:Nat} {m:Str→Option Value},P.Nodup→P[i]? = some x→vs[i]? = some v→kindOf x≠some .local→
  bindC kindOf (P.zip vs) m x=some v
 | [],_,_,_,_,h,_,_=>by simp at h
 | _ :: _,[],_,_,_,_,h,_=>by simp at h
 | p :: P,w :: vs,0,m,nd,h1,h2,hk=>by
  simp at h1 h2; subst h1; subst h2
  show bindC kindOf ((p,w) :: P.zip vs) m p=_
  unfold bindC
  rw [bindC_out fun v hv=>(List.nodup_cons.mp nd).1 (List.of_mem_zip hv).1,if_neg hk]
  simp
 | p :: P,w :: vs,i+1,m,nd,h1,h2,hk=>by
  show bindC kindOf ((p,w) :: P.zip vs) m x=_
  unfold bindC
  exact bindC_get (i:=i) (List.nodup_cons.mp nd).2 (by simpa using h1) (by simpa using h2) hk
def start (N:List Str) (vs:List V):St:=vs.map some ++ List.replicate (N.length - vs.length) none
def cxOf (CX:CXT) (P:Program) (w:World) (K:PySem.W.Frag) (mg:Str→Option Value) (base:Heap) (N:List Str) (qual:Str) (scope:Scope) (f:Addr) (cd:Value) (A:Around) (outer:List Env) (s:Shared) (H:Hp) (E:XK):Cx where
 prog:=P
 w:=w
 K:=K
 mg:=mg
 base:=base
 A:=A.deeper (envOfC qual scope s.heap.objs.size f cd)
 N:=N
 s₀:=s
 H₀:=H
 env:=envOfC qual scope s.heap.objs.size f cd
 outer:=outer
 stack:=envOfC qual scope s.heap.objs.size f cd :: outer
 ex:=[]
 calm:=true
 fn:=fun _=>true
 pn:=[]
 xe:=fun e s'=>wpAny (model P w) (A.deeper (envOfC qual scope s.heap.objs.size f cd)) (leaving (envOfC qual scope s.heap.objs.size f cd) e) (fun _ s''=>CX outer H s E e s'') (fun e' s''=>CX outer H s E e' s'') s'
theorem cell_has {sc:Scope} {n:Nat} {x:Str} (h:sc.names.lookup x=some .cell):∃ c,(cellsFrom n sc.names []).lookup x=some c:=by
 have q:=PySem.W.cellsFrom_some sc.names n [] (.inl h)
 exact Option.isSome_iff_exists.mp q
theorem inv_start {CX:CXT} {P:Program} {w:World} {K:PySem.W.Frag} {mg:Str→Option Value} {base:Heap} {N ps:List Str} {qual:Str} {scope:Scope} {f:Addr} {cd:Value} {A:Around} {outer:List Env} {s s1:Shared} {H:Hp} {E:XK} {us:List Value} {vs:List V}
  (S:FnScope N ps scope) (hd:A.handled=none) (e0:Env0 P w K mg base A outer s H) (hl:vs.length=ps.length) (r:Vals vs us)
  (x:InCallC s s.heap.objs.size (bindL (envOfC qual scope s.heap.objs.size f cd).kindOf (ps.zip us) fun _=>none) (cellsFrom (s.heap.objs.size+1) scope.names []) (bindC (envOfC qual scope s.heap.objs.size f cd).kindOf (ps.zip us) fun _=>none) s1) :
  Inv (cxOf CX P w K mg base N qual scope f cd A outer s H E) [] (start N vs) H s1:=by
 have hpl:ps.length≤N.length:=by have:=congrArg List.length S.pre; rw [List.length_take] at this; omega
 obtain ⟨h1,tk,rfl,hk⟩:=x.done
 have noA:∀ b:Addr,b∉(cxOf CX P w K mg base N qual scope f cd A outer s H E).ex:=fun b z=>absurd (show b∈([]:List Addr) from z) (by simp)
 refine ⟨⟨e0.mod,S.kind,rfl,rfl,Nat.le_refl _,fun y z c h1 h2=>?_,fun y hy=>?_,fun y c _ h=>?_,fun _=>hd,Around.frames_deeper e0.frames,.inr ⟨rfl,rfl⟩,fun b z=>absurd z (noA b),e0.bs,e0.bsz,fun b _ _=>noA b,fun b z=>absurd z (noA b),e0.funs,e0.frf⟩,
  rfl,e0.bare,Un.kept hk,⟨_,x.toInCall.ns,fun i y v h1 h2 h3=>?_⟩,fun y c h=>⟨_,x.cell y c h⟩,e0.hok.fresh (Nat.le_refl _),fun y c h=>?_,fun p hp=>absurd (show p∈([]:List (Addr × Obj)) from hp) (by simp),e0.hok.kept hk,?_⟩
 ·exact name_of_addr x.apart (PySem.mem_of_lookup h1) (PySem.mem_of_lookup h2)
 ·have hy:scope.names.lookup y=some .cell∨scope.names.lookup y=some .free:=hy
  rcases hy with hy | hy
  ·exact cell_has hy
  ·exact absurd rfl (S.nofree _ (PySem.mem_of_lookup hy))
 ·exact Nat.le_of_lt (x.above y c (PySem.mem_of_lookup h))
 ·have hi:i < vs.length:=by
   unfold start at h2
   by_cases hi:i < vs.length
   ·exact hi
   ·rw [List.getElem?_append_right (by simpa using hi)] at h2
    rw [List.getElem?_replicate] at h2
    split at h2 <;> cases h2
  have ha:vs[i]? = some v:=by
   unfold start at h2
   rw [List.getElem?_append_left (by simpa using hi),List.getElem?_map] at h2
   cases e:vs[i]? with
   | none=>rw [e] at h2; cases h2
   | some a=>rw [e] at h2; cases h2; rfl
  obtain ⟨u,hu,rv⟩:=r.get ha
  have hp:ps[i]? = some y:=by
   rw [← S.pre,List.getElem?_take_of_lt (by omega)]; exact h1
  have ndP:ps.Nodup:=by rw [← S.pre]; exact S.nd.sublist (List.take_sublist _ _)
  refine ⟨u,rv,?_⟩
  rcases S.par y (List.mem_of_getElem? hp) with k | k
  ·exact .inl ⟨k,bindL_get ndP hp hu k⟩
  ·obtain ⟨c,e⟩:=cell_has (n:=s.heap.objs.size+1) k
   refine .inr ⟨.inl k,c,e,?_⟩
   have q:=x.cell y c e
   rw [bindC_get ndP hp hu (by show scope.names.lookup y≠_; rw [k]; decide)] at q
   exact q
 ·exact e0.hok.fresh (Nat.le_of_lt (x.above y c (PySem.mem_of_lookup h)))
 ·unfold start
  show _=N.length
  rw [List.length_append,List.length_map,List.length_replicate]
  omega
theorem fn_of {CX:CXT} {P:Program} {w:World} {K:PySem.W.Frag} {mg:Str→Option Value} {base:Heap} {k:Nat} {f:Addr} {name qual:Str} {params:Arguments} {body:List Stmt} {scope:Scope} {dV kV doc pm cdv ct oc:Value} {an od:Option Addr}
  {osl:Array (Option Value)} {N ps:List Str} {sp:Sp} (lk:K.lookup f=some ⟨oc,od,.func (PySem.W.fnOf name qual params body scope dV kV doc pm an cdv ct),osl⟩) (hcd:PySem.W.codeIn K cdv qual=true) (S:FnScope N ps scope)
  (len:∀ vs H Q E,sp vs H Q E→vs.length=ps.length)
  (hbody:∀ (A:Around) (outer:List Env) (s:Shared) (H:Hp) (vs:List V) (Q:VK) (E:XK),Room k (A.deeper (envOfC qual scope s.heap.objs.size f cdv))→sp vs H Q E→
   ∃ t,PSs (cxOf CX P w K mg base N qual scope f cdv A outer s H E) body t∧t { nx:=fun _ H'=>Q .non H',rt:=Q } (start N vs) H) :
  FnOk P w K mg base CX (k+1) f (PySem.W.fnOf name qual params body scope dV kV doc pm an cdv ct) ps sp:=by
 refine ⟨len,fun A outer s H args us vs Q E hr e0 hb r hsp=>?_⟩
 have hl:=len _ _ _ _ hsp
 have KX:K.In s.heap:=e0.mod.kin.keeps fun b o e=>(e0.bs b o e).1
 have lim:s.heap.NoLimit:=e0.mod.nolimit.keeps fun b o e=>(e0.bs b o e).1
 have hkind:∀ y∈ps.zip us,scope.names.lookup y.1=some .local∨(scope.names.lookup y.1=some .cell∧((cellsFrom (s.heap.objs.size+1) scope.names []).lookup y.1).isSome=true):=fun ⟨n,v⟩ hy=>by
  rcases S.par n (List.of_mem_zip hy).1 with q | q
  ·exact .inl q
  ·exact .inr ⟨q,PySem.W.cellsFrom_some _ _ _ (.inl q)⟩
 refine codeAny_call_function hr.depth (KX _ _ lk) rfl S.co S.gen rfl (PySem.W.codeRec_of KX hcd) (hb _ _ _ _ ?_)
 refine wpAny_newFunctionEnv_cells S.kind hkind fun env he s1 x=>?_
 subst he
 refine ⟨lim.keeps x.toInCall.keep,codeAny_func ?_⟩
 obtain ⟨t,ht,hq⟩:=hbody A outer s H vs Q E (hr.deeper _) hsp
 have I:Inv (cxOf CX P w K mg base N qual scope f cdv A outer s H E) [] (start N vs) H s1:=inv_start S hr.hd e0 hl r x
 refine wpAny_mono (ht [] s1 (start N vs) H _ I hq) (fun fl s' hs=>?_) fun e s' hs=>hs
 have fin:∀ {σ':St} {H':Hp} {v:V} {u:Value},Inv (cxOf CX P w K mg base N qual scope f cdv A outer s H E) [] σ' H' s'→RelV v u→Q v H'→CE outer P w H s Q u s':=
  fun {σ' H' v u} J rv q=>⟨v,H',J.os,J.bare,J.base,J.hok,rv,q⟩
 cases fl with
 | ret u=>
  obtain ⟨v,σ',H',J,rv,q⟩:=hs
  exact fin J rv q
 | next=>
  obtain ⟨σ',H',J,q⟩:=hs
  exact fin (v:=V.non) (u:=Value.none) J rfl q
 | brk=>
  obtain ⟨_,_,_,q⟩:=hs
  exact False.elim q
 | cont=>
  obtain ⟨_,_,_,q⟩:=hs
  exact False.elim q
end L2
namespace L2
open PySem PySem.Spec PyProof.Rows
section
variable {X:Cx} {x:Str} {p pos:Pos} {e:Expr} {es:List Expr} {t:TA} {id T:String} {r:List V→Hp→VK→Prop}
def tCB (r:List V→Hp→VK→Prop) (t:TA):TE:=fun σ H Q=>t σ H fun vs H1=>r vs H1 Q
theorem pe_callB (hc:CallR X (.builtin id) r) (hg:Gl X x) (hm:X.mg x=none) (hv:bootBuiltins x=some (.builtin id)) (ha:PA X (e :: es) t) (hn:x≠"__name__":=by decide) (hdb:(x==("__debug__" : Str))=false:=by decide)
  (he:starEach (e :: es) X.env=(false,eval e X.env) :: starEach es X.env:=by rfl) (hpl:(backTo pos (starEach es X.env)).any (·.1)=false:=by rfl):PE X (.Call (.Name x p) (e :: es) [] pos) (tCB r t):=by
 intro pins s σ H Q I h
 refine wpAny_Call_Name_kw (ld_blt I hg hm hv ?_ hn hdb)
 exact PyProof.Rows.callWith_builtin1 (thn (ha pos pins s σ H _ I h) fun us s1 ⟨vs,H1,I1,r1,q1⟩=>hc pins s1 σ H1 vs us Q I1 r1 q1) he hpl
theorem pe_callTy (hc:CallR X (.type T) r) (hg:Gl X x) (hm:X.mg x=none) (hv:bootBuiltins x=some (.type T)) (ha:PA X (e :: es) t) (hn:x≠"__name__":=by decide) (hdb:(x==("__debug__" : Str))=false:=by decide)
  (he:starEach (e :: es) X.env=(false,eval e X.env) :: starEach es X.env:=by rfl) (hpl:(backTo pos (starEach es X.env)).any (·.1)=false:=by rfl):PE X (.Call (.Name x p) (e :: es) [] pos) (tCB r t):=by
 intro pins s σ H Q I h
 refine wpAny_Call_Name_kw (ld_blt I hg hm hv ?_ hn hdb)
 exact PyProof.Rows.callWith_type1 (thn (ha pos pins s σ H _ I h) fun us s1 ⟨vs,H1,I1,r1,q1⟩=>hc pins s1 σ H1 vs us Q I1 r1 q1) he hpl
end
end L2
namespace HT
open PySem PyProof.Rows
section
open PySem.SeqAt
open PySem.AutoSeq1 (wpAny_loadPart')
open PySem.MeetsSeq PySem.MeetsSeq2 PySem.MeetsSeq3
end
section
variable {prog:Program} {w:World} {A:Around} {E:Value→Shared→Prop} {s:Shared}
theorem cat_tup {t b:Addr} {vs ws:List Value} {Q:Value→Shared→Prop} (ht:IsTup s.heap t vs.toArray) (hb:IsTup s.heap b ws.toArray) (hv:vs≠[])
  (h1:ws=[]→Q (.ref t) s) (h2:ws≠[]→Q (.ref s.heap.objs.size) { s with heap:=s.heap.push { cls:=.type "tuple",data:=.seq (vs ++ ws).toArray } })
  (hsz:vs.length+ws.length≤sizeLine):wpAny (model prog w) A (binaryOp .Add (.ref t) (.ref b)) Q E s:=by
 obtain ⟨⟨cls,dd,data,sl⟩,ho,hc,n,hd⟩:=id ht
 obtain ⟨⟨cls2,dd2,data2,sl2⟩,ho2,hc2,n2,hd2⟩:=id hb
 simp only at hc hd hc2 hd2
 subst hc hd hc2 hd2
 have e:vs.toArray ++ ws.toArray=(vs ++ ws).toArray:=by simp
 by_cases hw:ws=[]
 ·exact concat_meets ⟨_,ho,rfl⟩ ⟨_,ho2,rfl⟩ noFill_tuple_add seq_tuple_add PySem.F.slot_tuple_add PySem.F.entry_tuple_add (PySem.F.args_tuple_add_2 _ _)
   (tuple_addW1 t b vs.toArray ws.toArray n n2 dd dd2 sl sl2 (by simpa using hv) (by simp [hw])) ⟨ho,ho2,h1 hw⟩
 ·refine concat_meets ⟨_,ho,rfl⟩ ⟨_,ho2,rfl⟩ noFill_tuple_add seq_tuple_add PySem.F.slot_tuple_add PySem.F.entry_tuple_add (PySem.F.args_tuple_add_2 _ _)
   (tuple_addW2 t b vs.toArray ws.toArray n n2 dd dd2 sl sl2 (by simpa using hv) (by simpa using hw) (by rw [List.size_toArray,List.size_toArray]; exact hsz)) ⟨ho,ho2,?_⟩
  rw [e]
  exact h2 hw
def sIx (n d:Nat):Option Int→Nat
 | none=>d
 | some v=>if v < 0 then (v+(n:Int)).toNat else min v.toNat n
theorem sIx_none (n d:Nat):sIx n d none=d:=rfl
theorem sIx_nat (n d k:Nat):sIx n d (some (k:Int))=min k n:=by
 show (if (k:Int) < 0 then ((k:Int)+(n:Int)).toNat else min (k:Int).toNat n)=min k n
 rw [if_neg (by omega),Int.toNat_natCast]
theorem sIx_le (n d:Nat) (hd:d≤n) (o:Option Int):sIx n d o≤n:=by
 cases o with
 | none=>exact hd
 | some v=>
  show (if v < 0 then (v+(n:Int)).toNat else min v.toNat n)≤n
  by_cases hv:v < 0
  ·rw [if_pos hv]; omega
  ·rw [if_neg hv]; exact Nat.min_le_right _ _
theorem clip_eq (v:Int) (n d:Nat):(if v < 0 then max (v+(n:Int)) 0 else min v (n:Int))=((sIx n d (some v):Nat):Int):=by
 show (if v < 0 then max (v+(n:Int)) 0 else min v (n:Int))=(((if v < 0 then (v+(n:Int)).toNat else min v.toNat n):Nat):Int)
 by_cases hv:v < 0
 ·simp only [if_pos hv]; omega
 ·simp only [if_neg hv]; omega
theorem adjust_gen (lo hi:Option Int) (n:Nat):Builtin.Slice.sliceAdjust lo hi 1 (n:Int)=(((sIx n 0 lo:Nat):Int),((sIx n n hi:Nat):Int)):=by
 have h1:¬ ((1:Int) < 0):=by omega
 unfold Builtin.Slice.sliceAdjust
 simp only [h1,if_false]
 refine Prod.ext ?_ ?_
 ·cases lo with
  | none=>rfl
  | some v=>exact clip_eq v n 0
 ·cases hi with
  | none=>rfl
  | some v=>exact clip_eq v n n
theorem places_gen (i j:Nat):Builtin.Slice.slicePlaces (i:Int) (j:Int) 1=j - i:=by
 unfold Builtin.Slice.slicePlaces
 have h1:(1:Int) > 0:=by omega
 simp only [h1,if_true,Int.ediv_one]
 split <;> omega
theorem slicePart_ {v:Value} {o:Option Int} {Q:Option Int→Shared→Prop} (p:IsPart v o) (h:Q o s):wpAny (model prog w) A (Builtin.Slice.slicePartIndex v) Q E s:=by
 cases p with
 | none=>exact slicePart_none h
 | int i t=>exact slicePart_int h
theorem sliceApplied_gen {sl:Addr} {vl vu:Value} {lo hi:Option Int} {n:Nat} {Q:Int × Int × Nat→Shared→Prop} (hs:s.heap.IsSliceOf sl vl vu .none) (pl:IsPart vl lo) (pu:IsPart vu hi)
  (h:Q (((sIx n 0 lo:Nat):Int),1,sIx n n hi - sIx n 0 lo) s):wpAny (model prog w) A (Builtin.Slice.sliceApplied (.ref sl) (pure (n:Int))) Q E s:=by
 obtain ⟨os,hos,hcs,hds⟩:=id hs
 unfold Builtin.Slice.sliceApplied Builtin.Slice.sliceFields
 refine wpAny_bind (wpAny_bind (wpAny_field hos hds (x:=vl) rfl (wpAny_bind (wpAny_field hos hds (x:=vu) rfl (wpAny_bind (wpAny_field hos hds (x:=.none) rfl (wpAny_pure ?_)))))))
 refine wpAny_bind (slicePart_none ?_)
 show wpAny _ _ (if ((1:Int)==0)=true then _ else _) _ _ s
 rw [if_neg (by decide)]
 refine wpAny_bind (slicePart_ pl (wpAny_bind (slicePart_ pu (wpAny_bind (wpAny_pure ?_)))))
 show wpAny _ _ (match Builtin.Slice.sliceAdjust lo hi 1 (n:Int) with | (lo,hi)=>pure (lo,(1:Int),Builtin.Slice.slicePlaces lo hi 1)) _ _ s
 rw [adjust_gen lo hi n]
 show wpAny _ _ (pure (((sIx n 0 lo:Nat):Int),(1:Int),Builtin.Slice.slicePlaces ((sIx n 0 lo:Nat):Int) ((sIx n n hi:Nat):Int) 1)) _ _ s
 rw [places_gen]
 exact wpAny_pure h
theorem pick_gen (xs:Array Value) (i k:Nat):((List.range k).filterMap fun (m:Nat)=>xs[((i:Int)+(m:Int) * 1).toNat]?).toArray=((xs.toList.drop i).take k).toArray:=by
 have e:(fun (m:Nat)=>xs[((i:Int)+(m:Int) * 1).toNat]?)=fun m=>xs[i+m]?:=by
  funext m
  have:((i:Int)+(m:Int) * 1).toNat=i+m:=by omega
  rw [this]
 rw [e]
 have:=pick_run xs i k
 rw [List.filterMap_map] at this
 have e2:((fun x=>xs[x]?) ∘ fun x=>i+x)=fun m=>xs[i+m]?:=rfl
 rw [e2] at this
 rw [this]
theorem getItem_tuple_cut {t sl:Addr} {items:Array Value} {vl vu:Value} {lo hi:Option Int} {Q:Value→Shared→Prop} (ht:IsTup s.heap t items) (hs:s.heap.IsSliceOf sl vl vu .none) (pl:IsPart vl lo) (pu:IsPart vu hi)
  (hw:¬ (sIx items.size 0 lo=0∧sIx items.size items.size hi=items.size))
  (h:Q (.ref s.heap.objs.size) { s with heap:=s.heap.push { cls:=.type "tuple",data:=.seq ((items.toList.drop (sIx items.size 0 lo)).take (sIx items.size items.size hi - sIx items.size 0 lo)).toArray } })
  (hsz:items.size≤sizeLine):wpAny (model prog w) A (getItem (.ref t) (.ref sl)) Q E s:=by
 have htake:sizeOk (.seq ((items.toList.drop (sIx items.size 0 lo)).take (sIx items.size items.size hi - sIx items.size 0 lo)).toArray):=by
  show ((items.toList.drop (sIx items.size 0 lo)).take (sIx items.size items.size hi - sIx items.size 0 lo)).toArray.size≤sizeLine
  rw [List.size_toArray,List.length_take,List.length_drop,Array.length_toList]
  omega
 have hj:sIx items.size items.size hi≤items.size:=sIx_le _ _ (Nat.le_refl _) hi
 obtain ⟨os,hos,hcs,hds⟩:=id hs
 have hTs:s.TypeIs (.ref sl) "slice":=⟨os,hos,hcs⟩
 unfold getItem
 try with_reducible refine wpAny_holding ?_
 first | refine wpAny_bind (wpAny_pure ?_) | skip
 refine wpAny_bind (wpAny_sequenceKey ht.typeIs (by decide) ?_)
 refine wpAny_bind (wpAny_callSpecial?_slot (name:=Str.ofString "__getitem__") ht.typeIs PyProof.Rows.slot_tuple_getitem
  (wpAny_call_entry PyProof.Rows.slot_tuple_getitem ht.typeIs entry_tuple_getitem ?_ (args_tuple_getitem _ _)))
 show wpAny _ _ (Builtin.Tuple.tupleItemsOf (.ref t) >>= _) _ _ s
 refine wpAny_bind (tupleItemsOf_ ht ?_)
 refine wpAny_bind (wpAny_typeOf hTs ?_)
 rw [if_pos (by decide)]
 refine wpAny_bind (sliceApplied_gen hs pl pu ?_)
 have hno:¬ ((((sIx items.size 0 lo:Nat):Int)==0 && (1:Int)==1 && (sIx items.size items.size hi - sIx items.size 0 lo)==items.size)=true):=by
  intro q
  rw [Bool.and_eq_true,Bool.and_eq_true] at q
  have q1:((sIx items.size 0 lo:Nat):Int)=0:=eq_of_beq q.1.1
  have q2:sIx items.size items.size hi - sIx items.size 0 lo=items.size:=eq_of_beq q.2
  exact hw ⟨by omega,by omega⟩
 show wpAny _ _ (if (((sIx items.size 0 lo:Nat):Int)==0 && (1:Int)==1 && (sIx items.size items.size hi - sIx items.size 0 lo)==items.size)=true then _ else _) _ _ s
 rw [if_neg hno,pick_gen]
 first
  | exact wpAny_bind (m:=Builtin.Tuple.tupleExact _) (wpAny_newObj_type (wpAny_pure ⟨_,rfl,wpAny_pure h⟩) htake)
  | exact wpAny_bind (m:=Builtin.Tuple.tupleExact _) (wpAny_newObj_type (wpAny_bind (wpAny_pure (wpAny_pure ⟨_,rfl,wpAny_pure h⟩))) htake)
  | exact wpAny_bind (wpAny_bind (m:=Builtin.Tuple.tupleExact _) (wpAny_newObj_type (wpAny_pure (wpAny_pure ⟨_,rfl,wpAny_pure h⟩)) htake))
  | exact wpAny_bind (wpAny_bind (m:=Builtin.Tuple.tupleExact _) (wpAny_newObj_type (wpAny_pure ⟨_,rfl,wpAny_pure h⟩) htake))
end
end HT
namespace L2
open PySem PySem.Spec PyProof.Rows
abbrev TO:=St→Hp→(Option Int→Hp→Prop)→Prop
def PO (X:Cx) (e:Option Expr) (t:TO):Prop:=
 ∀ (pins:List (Addr × Obj)) (s:Shared) (σ:St) (H:Hp) (Q:Option Int→Hp→Prop),Inv X pins σ H s→t σ H Q→
  wpAny (model X.prog X.w) X.A (evalPart e X.env) (fun u s'=>∃ o H',Inv X pins σ H' s'∧IsPart u o∧Q o H') X.xe s
def tNoPart:TO:=fun _ H Q=>Q none H
inductive tPartI (Q:Option Int→Hp→Prop) (x:V) (H1:Hp):Prop
 | mk (i:_) (h1:x=.int i) (h2:Q (some i) H1):tPartI Q x H1
def tPart (t:TE):TO:=fun σ H Q=>t σ H fun x H1=>tPartI Q x H1
theorem intsAre_of {ns:List Int}:∀ {us:List Value},Vals (ns.map V.int) us→IntsAre us ns:=by
 induction ns with
 | nil=>intro us r; rw [List.map_nil] at r; cases r; exact .nil
 | cons n ns ih=>
  intro us r
  rw [List.map_cons] at r
  cases r with
  | cons r1 r2=>
   obtain ⟨t,e⟩:=r1
   subst e
   exact .cons n t (ih r2)
section
variable {X:Cx} {e:Expr} {te:TE} {lo hi:Option Expr} {tl th:TO} {pos p2:Pos}
theorem po_none:PO X none tNoPart:=by
 intro pins s σ H Q I h
 rw [evalPart_none]
 exact wpAny_pure ⟨none,H,I,.none,h⟩
theorem po_some (h:PE X e te):PO X (some e) (tPart te):=by
 intro pins s σ H Q I hw
 rw [evalPart_some]
 refine thn (h pins s σ H _ I hw) fun u s1 ⟨x,H1,I1,r1,q1⟩=>?_
 obtain ⟨i,rfl,q⟩:=q1
 obtain ⟨t,rfl⟩:=r1
 exact ⟨some i,H1,I1,.int i t,q⟩
def SlR (X:Cx) (r:V→Option Int→Option Int→Hp→VK→Prop):Prop:=
 ∀ (pins:List (Addr × Obj)) (s:Shared) (σ:St) (H:Hp) (x:V) (v vl vu:Value) (lo hi:Option Int) (sl:Addr) (Q:VK),Inv X pins σ H s→RelV x v→s.heap.IsSliceOf sl vl vu .none→IsPart vl lo→IsPart vu hi→r x lo hi H Q→
  ∃ T id,typeLookup (.type T) "__getitem__" = pure (some (.builtin id))∧s.TypeIs v T∧wpAny (model X.prog X.w) X.A (getItem v (.ref sl)) (EP X pins σ Q) X.xe s
def tSl (r:V→Option Int→Option Int→Hp→VK→Prop) (te:TE) (tl th:TO):TE:=fun σ H Q=>te σ H fun x H1=>tl σ H1 fun l H2=>th σ H2 fun u H3=>r x l u H3 Q
theorem pe_slice {r:V→Option Int→Option Int→Hp→VK→Prop} (hr:SlR X r) (he:PE X e te) (hl:PO X lo tl) (hu:PO X hi th):PE X (.Subscript e (.Slice lo hi none p2) pos) (tSl r te tl th):=by
 intro pins s σ H Q I h
 refine Subscript_ (thn (he pins s σ H _ I h) fun v s1 ⟨x,H1,I1,r1,q1⟩=>?_)
 refine wpAny_Slice (thn (hl pins s1 σ H1 _ I1 q1) fun vl s2 ⟨l,H2,I2,pl,q2⟩=>thn (hu pins s2 σ H2 _ I2 q2) fun vu s3 ⟨u,H3,I3,pu,q3⟩=>?_)
 rw [evalPart_none]
 refine wpAny_pure ?_
 have I4:Inv X pins σ H3 { s3 with heap:=s3.heap.push { cls:=.type "slice",data:=.fields #[vl,vu,.none] } }:=I3.kept (t':=s3.toks) fun b ob q=>Heap.get?_push_of_some _ q
 obtain ⟨T,id,hT,ht,hg⟩:=hr pins { s3 with heap:=s3.heap.push { cls:=.type "slice",data:=.fields #[vl,vu,.none] } } σ H3 x v vl vu l u s3.heap.objs.size Q I4 r1 (Heap.IsSliceOf.new ..) pl pu q3
 show wpAny (model X.prog X.w) X.A (subscriptTail e (.Slice lo hi none p2) v (.ref s3.heap.objs.size)) (EP X pins σ Q) X.xe { s3 with heap:=s3.heap.push { cls:=.type "slice",data:=.fields #[vl,vu,.none] } }
 exact tail_any (ops:=[.ref s3.heap.objs.size,v]) ht hT hg (by with_unfolding_all rfl)
def cutV (xs:List V) (lo hi:Option Int):List V:=(xs.drop (HT.sIx xs.length 0 lo)).take (HT.sIx xs.length xs.length hi - HT.sIx xs.length 0 lo)
theorem cutV_length (xs:List V) (lo hi:Option Int):(cutV xs lo hi).length≤xs.length:=by
 unfold cutV
 rw [List.length_take,List.length_drop]
 omega
inductive rSlTI (K:PySem.W.Frag) (x:V) (lo:Option Int) (hi:Option Int) (H:Hp) (Q:VK):Prop
 | mk (a xs:_) (h1:x=.ref a) (h2:SqT K H a xs) (h3:¬ (HT.sIx xs.length 0 lo=0∧HT.sIx xs.length xs.length hi=xs.length)) (h4:∀ p,H p=none→Q (.ref p) (upd H p (.tup (cutV xs lo hi)))):rSlTI K x lo hi H Q
def rSlT (K:PySem.W.Frag):V→Option Int→Option Int→Hp→VK→Prop:=fun x lo hi H Q=>rSlTI K x lo hi H Q
theorem sl_tup:SlR X (rSlT X.K):=by
 intro pins s σ H x v vl vu lo hi sl Q I rx hs pl pu h
 obtain ⟨a,xs,rfl,hx,hw,q⟩:=h
 cases rx
 obtain ⟨its,r,ht,hz⟩:=I.tuple hx
 have hlen:its.toArray.size=xs.length:=by rw [List.size_toArray]; exact r.length.symm
 refine ⟨"tuple",_,PyProof.Rows.slot_tuple_getitem.lookup,ht.typeIs,?_⟩
 refine HT.getItem_tuple_cut ht hs pl pu (by rw [hlen]; exact hw) ?_ (by rw [hlen]; exact hz)
 rw [hlen]
 refine ⟨.ref s.heap.objs.size,_,I.laid (t':=s.toks) (o:=.tup (cutV xs lo hi)) (fun b ob q=>Heap.get?_push_of_some _ q) (Nat.le_refl _) ?_,rfl,q _ (I.hok.fresh (Nat.le_refl _))⟩
 exact ⟨Nat.le_trans (cutV_length xs lo hi) hz,_,(r.drop (HT.sIx xs.length 0 lo)).take (HT.sIx xs.length xs.length hi - HT.sIx xs.length 0 lo),IsTup.new _ _⟩
inductive rCatTI (K:PySem.W.Frag) (x:V) (y:V) (H:Hp) (Q:VK):Prop
 | mk (a b xs ys:_) (h1:x=.ref a) (h2:y=.ref b) (h3:SqT K H a xs) (h4:SqT K H b ys) (h5:xs≠[]) (h6:xs.length+ys.length≤sizeLine) (h7:(ys=[]→Q (.ref a) H)) (h8:(ys≠[]→∀ p,H p=none→Q (.ref p) (upd H p (.tup (xs ++ ys))))):rCatTI K x y H Q
def rCatT (K:PySem.W.Frag):R2:=fun x y H Q=>rCatTI K x y H Q
theorem Vals.nil_iff {xs:List V} {us:List Value} (r:Vals xs us):us=[]↔xs=[]:=by
 cases r with
 | nil=>simp
 | cons _ _=>simp
theorem op_catT:OpR X (binaryOp .Add) (rCatT X.K):=by
 intro pins s σ H x y v u Q I rx ry h
 obtain ⟨a,b,xs,ys,rfl,rfl,ha,hb,hx,hz,q1,q2⟩:=h
 cases rx
 cases ry
 obtain ⟨its,r1,p1,_⟩:=I.tuple ha
 obtain ⟨its2,r2,p2,_⟩:=I.tuple hb
 refine HT.cat_tup p1 p2 (fun z=>hx (r1.nil_iff.mp z)) (fun z=>⟨.ref a,H,I,rfl,q1 (r2.nil_iff.mp z)⟩) (fun z=>?_) (by rw [← r1.length,← r2.length]; exact hz)
 refine ⟨.ref s.heap.objs.size,_,I.laid (t':=s.toks) (o:=.tup (xs ++ ys)) (fun b ob q=>Heap.get?_push_of_some _ q) (Nat.le_refl _) ?_,rfl,q2 (fun w=>z (r2.nil_iff.mpr w)) _ (I.hok.fresh (Nat.le_refl _))⟩
 exact ⟨by rw [List.length_append]; exact hz,_,r1.append r2,IsTup.new _ _⟩
end
end L2
namespace L2
open PySem PySem.Spec PyProof.Rows
def ixN (n:Nat) (i:Int):Option Nat:=if 0≤i then (if i < n then some i.toNat else none) else if -(n:Int)≤i then some (i+n).toNat else none
def atI {α:Type} (xs:List α) (i:Int):Option α:=(ixN xs.length i).bind fun j=>xs[j]?
theorem ixN_seq {n:Nat} {i:Int} {j:Nat} (h:ixN n i=some j):seqIndex? i n=some j∧j < n∧-(n:Int)≤i∧i < n:=by
 unfold ixN at h
 by_cases h0:0≤i
 ·rw [if_pos h0] at h
  by_cases h1:i < n
  ·rw [if_pos h1] at h
   have e:i.toNat=j:=Option.some.inj h
   exact ⟨by rw [seqIndex_of h0 h1,e],by omega,by omega,h1⟩
  ·rw [if_neg h1] at h; cases h
 ·rw [if_neg h0] at h
  by_cases h1 : -(n:Int)≤i
  ·rw [if_pos h1] at h
   have e:(i+n).toNat=j:=Option.some.inj h
   exact ⟨by rw [seqIndex_neg (by omega) h1,e],by omega,h1,by omega⟩
  ·rw [if_neg h1] at h; cases h
theorem atI_get {α:Type} {xs:List α} {i:Int} {v:α} (h:atI xs i=some v):∃ j,seqIndex? i xs.length=some j∧xs[j]? = some v∧j < xs.length∧-(xs.length:Int)≤i∧i < xs.length:=by
 unfold atI at h
 cases e:ixN xs.length i with
 | none=>rw [e] at h; cases h
 | some j=>
  rw [e] at h
  obtain ⟨h1,h2,h3,h4⟩:=ixN_seq e
  exact ⟨j,h1,h,h2,h3,h4⟩
theorem atI_nat {α:Type} {xs:List α} {j:Nat} {v:α} (h:xs[j]? = some v):atI xs (j:Int)=some v:=by
 have hj:j < xs.length:=(List.getElem?_eq_some_iff.mp h).1
 have e:ixN xs.length (j:Int)=some j:=by
  unfold ixN
  rw [if_pos (by omega),if_pos (by omega)]; simp
 unfold atI; rw [e]; exact h
def PlainIx (b:Expr):Prop:=∀ o i,subscripted b false o i=operate [o,i] (getItem o i)
def IxR (X:Cx) (r:R2):Prop:=
 ∀ (value slice:Expr) (pins:List (Addr × Obj)) (s:Shared) (σ:St) (H:Hp) (x y:V) (v u:Value) (Q:VK),Inv X pins σ H s→RelV x v→RelV y u→r x y H Q→
  subscripted slice false v u=operate [v,u] (getItem v u)→wpAny (model X.prog X.w) X.A (subscriptTail value slice v u) (EP X pins σ Q) X.xe s
def MtR (X:Cx) (id:String) (r:V→List V→Hp→VK→Prop):Prop:=
 ∀ (pins:List (Addr × Obj)) (s:Shared) (σ:St) (H:Hp) (x:V) (xs:List V) (v:Value) (us:List Value) (Q:VK),Inv X pins σ H s→RelV x v→Vals xs us→r x xs H Q→
  wpAny (model X.prog X.w) X.A (call (.builtin id) (v :: us)) (EP X pins σ Q) X.xe s
section
variable {X:Cx} {a b:Expr} {ta tb:TE} {pos:Pos}
theorem pe_ix {r:R2} (hr:IxR X r) (ha:PE X a ta) (hb:PE X b tb) (hs:PlainIx b):PE X (.Subscript a b pos) (tOp r ta tb):=by
 intro pins s σ H Q I h
 exact Subscript_ (binT ha hb I h fun v u s2 x y H2 I2 rx ry q=>hr a b pins s2 σ H2 x y v u Q I2 rx ry q (hs _ _))
inductive rIxLI (K:PySem.W.Frag) (x:V) (y:V) (H:Hp) (Q:VK):Prop
 | mk (p xs i v:_) (h1:x=.ref p) (h2:y=.int i) (h3:SqL K H p xs) (h4:atI xs i=some v) (h5:Q v H):rIxLI K x y H Q
def rIxL (K:PySem.W.Frag):R2:=fun x y H Q=>rIxLI K x y H Q
inductive rIxTI (K:PySem.W.Frag) (x:V) (y:V) (H:Hp) (Q:VK):Prop
 | mk (p xs i v:_) (h1:x=.ref p) (h2:y=.int i) (h3:SqT K H p xs) (h4:atI xs i=some v) (h5:Q v H):rIxTI K x y H Q
def rIxT (K:PySem.W.Frag):R2:=fun x y H Q=>rIxTI K x y H Q
inductive rIxSI (x:V) (y:V) (H:Hp) (Q:VK):Prop
 | mk (z i c:_) (h1:x=.str z) (h2:y=.int i) (h3:z.length≤sizeLine) (h4:atI z.cps.toList i=some c) (h5:Q (.str ⟨#[c]⟩) H):rIxSI x y H Q
def rIxS:R2:=fun x y H Q=>rIxSI x y H Q
theorem ix_list:IxR X (rIxL X.K):=by
 intro value slice pins s σ H x y v u Q I rx ry h hs
 obtain ⟨p,xs,i,z,rfl,rfl,hq,he,q⟩:=h
 cases rx
 obtain ⟨t,rfl⟩:=ry
 obtain ⟨its,r,pl,hz⟩:=I.list hq
 obtain ⟨j,h1,h2,h3,h4,h5⟩:=atI_get he
 obtain ⟨w,ew,rw'⟩:=r.get h2
 have hl:=r.length
 have hn:=line63
 have fin:EP X pins σ Q w s:=⟨z,H,I,rw',q⟩
 by_cases h0:0≤i
 ·have hj:i.toNat=j:=by
   rw [seqIndex_of h0 h5] at h1
   exact Option.some.inj h1
  exact item_listR pl.isList h0 (by omega) (by rw [hj]; simpa using ew) fin hs
 ·have hj:(i+(its.toArray.size:Int)).toNat=j:=by
   rw [seqIndex_neg (by omega) h4] at h1
   rw [List.size_toArray,← hl]
   exact Option.some.inj h1
  exact subscriptTail_builtinR (x:=w) pl.isList.typeIs slot_list_getitem.lookup
   (wpAny_getItem_list_neg (Q:=fun r s'=>r=w∧EP X pins σ Q r s') pl.isList (by omega) (by rw [List.size_toArray] <;> omega) (by omega) (by rw [hj]; simpa using ew) ⟨rfl,fin⟩) hs
theorem ix_tup:IxR X (rIxT X.K):=by
 intro value slice pins s σ H x y v u Q I rx ry h hs
 obtain ⟨p,xs,i,z,rfl,rfl,hq,he,q⟩:=h
 cases rx
 obtain ⟨t,rfl⟩:=ry
 obtain ⟨its,r,pl,hz⟩:=I.tuple hq
 obtain ⟨j,h1,h2,h3,h4,h5⟩:=atI_get he
 obtain ⟨w,ew,rw'⟩:=r.get h2
 have hl:=r.length
 have hn:=line63
 have fin:EP X pins σ Q w s:=⟨z,H,I,rw',q⟩
 exact subscriptTail_builtinR (x:=w) pl.typeIs slot_tuple_getitem.lookup
  (getItem_tuple (j:=j) (Q:=fun r s'=>r=w∧EP X pins σ Q r s') pl (by omega) (by omega) (by rw [List.size_toArray,← hl]; exact h1) (by simpa using ew) ⟨rfl,fin⟩) hs
theorem ix_str:IxR X rIxS:=by
 intro value slice pins s σ H x y v u Q I rx ry h hs
 obtain ⟨z,i,c,rfl,rfl,hz,he,q⟩:=h
 obtain ⟨t,rfl⟩:=rx
 obtain ⟨t',rfl⟩:=ry
 obtain ⟨j,h1,h2,h3,h4,h5⟩:=atI_get he
 have hl:z.cps.toList.length=z.length:=by simp [Str.length]
 rw [hl] at h1 h4 h5
 have hn:=line63
 exact tail_any (typeIs_str s z t) slot_str_getitem.lookup (getItem_str (c:=c) (by
  have e1:decide (i < -(2 ^ 63:Int))=false:=decide_eq_false (by omega)
  have e2:decide (i ≥ 2 ^ 63)=false:=decide_eq_false (by omega)
  rw [e1,e2,Bool.or_false]) (by rw [h1]; simpa using h2) ⟨.str ⟨#[c]⟩,H,I.tok _,⟨_,rfl⟩,q⟩) hs
theorem mapSeq_set (its:List Value) (n j:Nat) (u:Value):Obj.mapSeq (·.setIfInBounds j u) { cls:=.type "list",data:=.seq its.toArray n } = { cls:=.type "list",data:=.seq (its.set j u).toArray n }:=by
 simp [Obj.mapSeq]
theorem Inv.lst {pins:List (Addr × Obj)} {σ:St} {H:Hp} {s:Shared} {p:Addr} {xs:List V} (I:Inv X pins σ H s) (h:H p=some (.lst xs)) :
  ∃ (its:List Value) (n:Nat),Vals xs its∧s.heap.get? p=some { cls:=.type "list",data:=.seq its.toArray n }∧xs.length≤sizeLine:=by
 obtain ⟨z,its,n,r,e⟩:=I.hok p _ h
 exact ⟨its,n,r,e,z⟩
theorem Inv.lstUpd {pins:List (Addr × Obj)} {σ:St} {H:Hp} {s:Shared} {p:Addr} {xs ys:List V} {its its':List Value} {n n':Nat} {f:Obj→Obj} (I:Inv X pins σ H s) (h:H p=some (.lst xs))
  (ho:s.heap.get? p=some { cls:=.type "list",data:=.seq its.toArray n }) (hf:f { cls:=.type "list",data:=.seq its.toArray n } = { cls:=.type "list",data:=.seq its'.toArray n' }) (r:Vals ys its') (hz:ys.length≤sizeLine) (t:Nat) :
  Inv X pins σ (upd H p (.lst ys)) { s with heap:=s.heap.update p f,toks:=t }:=by
 have e:(s.heap.update p f).get? p=some { cls:=.type "list",data:=.seq its'.toArray n' }:=by
  rw [Heap.get?_update_self f ho (by rw [hf] <;> rfl),hf]
 refine I.write (x:=p) (e:=p) (by rw [h]; trivial) (.inl rfl) (fun b u hb q=>(Heap.get?_update_other _ _ (Ne.symm hb)).trans q) ⟨_,e⟩ ?_
 exact ⟨hz,its',n',r,e⟩
inductive rSetLI (o:V) (i:V) (v:V) (H:Hp) (Q:(Hp→Prop)):Prop
 | mk (p xs k j:_) (h1:o=.ref p) (h2:i=.int k) (h3:H p=some (.lst xs)) (h4:ixN xs.length k=some j) (h5:Q (upd H p (.lst (xs.set j v)))):rSetLI o i v H Q
def rSetL:V→V→V→Hp→(Hp→Prop)→Prop:=fun o i v H Q=>rSetLI o i v H Q
theorem set_list:PSet X rSetL:=by
 intro pins s σ H o i v ov iv u Q I ro ri rv h
 obtain ⟨p,xs,k,j,rfl,rfl,hp,hj,q⟩:=h
 cases ro
 obtain ⟨t,rfl⟩:=ri
 obtain ⟨its,n,r,ho,hz⟩:=I.lst hp
 obtain ⟨h1,h2,h3,h4⟩:=ixN_seq hj
 have hl:=r.length
 have hn:=line63
 have I':Inv X pins σ (upd H p (.lst (xs.set j v))) { s with heap:=s.heap.update p (Obj.mapSeq (·.setIfInBounds j u)) }:=
  I.lstUpd hp ho (mapSeq_set its n j u) (r.set rv j) (by rw [List.length_set]; exact hz) s.toks
 by_cases h0:0≤k
 ·have hk:k.toNat=j:=by
   rw [seqIndex_of h0 h4] at h1
   exact Option.some.inj h1
  exact PySem.W.ki_setAt ho h0 (by omega) (by rw [List.size_toArray,← hl]; exact h4) (by rw [hk]; exact ⟨_,I',q⟩)
 ·have hk:(k+(its.toArray.size:Int)).toNat=j:=by
   rw [seqIndex_neg (by omega) h3] at h1
   rw [List.size_toArray,← hl]
   exact Option.some.inj h1
  exact PySem.W.ki_setBack ho (by omega) (by rw [List.size_toArray,← hl]; exact h3) (by omega) (by rw [hk]; exact ⟨_,I',q⟩)
theorem slice_bounds (lo hi:Option Int) (n:Nat):(sliceBounds lo hi none n).1=((HT.sIx n 0 lo:Nat):Int)∧(sliceBounds lo hi none n).2.1=((HT.sIx n n hi:Nat):Int)∧(sliceBounds lo hi none n).2.2=1:=by
 refine ⟨?_,?_,rfl⟩
 ·cases lo with
  | none=>simp [sliceBounds,HT.sIx]
  | some i=>
   simp only [sliceBounds,HT.sIx,Option.getD_none,show (1:Int) > 0 by decide,if_true]
   by_cases h:i < 0
   ·simp only [h,if_true] <;> omega
   ·simp only [h,if_false] <;> omega
 ·cases hi with
  | none=>simp [sliceBounds,HT.sIx]
  | some i=>
   simp only [sliceBounds,HT.sIx,Option.getD_none,show (1:Int) > 0 by decide,if_true]
   by_cases h:i < 0
   ·simp only [h,if_true] <;> omega
   ·simp only [h,if_false] <;> omega
def flatV:V→Bool
 | .non=>true
 | .bl _=>true
 | .int _=>true
 | .str _=>true
 | _=>false
def eqV:V→V→Bool
 | .non,.non=>true
 | .bl a,.bl b=>a==b
 | .bl a,.int b=>(if a then 1 else 0)==b
 | .int a,.bl b=>a==(if b then 1 else 0)
 | .int a,.int b=>a==b
 | .str a,.str b=>a==b
 | _,_=>false
theorem eqAt_V {A:Around} {s:Shared} {y x:V} {u v:Value} (ry:RelV y u) (rx:RelV x v) (fy:flatV y=true) (fx:flatV x=true):SeqAt.EqAt A s u v (eqV y x):=by
 cases y with
 | non=>
  cases ry
  cases x with
  | non=>cases rx; exact SeqAt.EqAt.same _
  | bl b=>cases rx; exact SeqAt.EqAt.none_bool b
  | int b=>obtain ⟨t,rfl⟩:=rx; exact SeqAt.EqAt.none_int b t
  | str b=>obtain ⟨t,rfl⟩:=rx; exact SeqAt.EqAt.none_str b t
  | _=>exact absurd (show false=true from fx) Bool.false_ne_true
 | bl a=>
  cases ry
  cases x with
  | non=>cases rx; exact SeqAt.EqAt.bool_none a
  | bl b=>cases rx; exact SeqAt.EqAt.bool_bool a b
  | int b=>obtain ⟨t,rfl⟩:=rx; exact SeqAt.EqAt.bool_int a b t
  | str b=>obtain ⟨t,rfl⟩:=rx; exact SeqAt.EqAt.bool_str a b t
  | _=>exact absurd (show false=true from fx) Bool.false_ne_true
 | int a=>
  obtain ⟨t',rfl⟩:=ry
  cases x with
  | non=>cases rx; exact SeqAt.EqAt.int_none a t'
  | bl b=>cases rx; exact SeqAt.EqAt.int_bool a t' b
  | int b=>obtain ⟨t,rfl⟩:=rx; exact SeqAt.EqAt.int_int a t' b t
  | str b=>obtain ⟨t,rfl⟩:=rx; exact SeqAt.EqAt.int_str a t' b t
  | _=>exact absurd (show false=true from fx) Bool.false_ne_true
 | str a=>
  obtain ⟨t',rfl⟩:=ry
  cases x with
  | non=>cases rx; exact SeqAt.EqAt.str_none a t'
  | bl b=>cases rx; exact SeqAt.EqAt.str_bool a t' b
  | int b=>obtain ⟨t,rfl⟩:=rx; exact SeqAt.EqAt.str_int a t' b t
  | str b=>obtain ⟨t,rfl⟩:=rx; exact SeqAt.EqAt.str_str a t' b t
  | _=>exact absurd (show false=true from fx) Bool.false_ne_true
 | _=>exact absurd (show false=true from fy) Bool.false_ne_true
def eqU (x:V) (u:Value):Bool:=match u with
 | .none=>eqV .non x
 | .bool b=>eqV (.bl b) x
 | .int i _=>eqV (.int i) x
 | .str z _=>eqV (.str z) x
 | _=>false
theorem eqU_of {x y:V} {u:Value} (r:RelV y u) (f:flatV y=true):eqU x u=eqV y x:=by
 cases y with
 | non=>cases r; rfl
 | bl b=>cases r; rfl
 | int i=>obtain ⟨t,rfl⟩:=r; rfl
 | str z=>obtain ⟨t,rfl⟩:=r; rfl
 | _=>exact absurd (show false=true from f) Bool.false_ne_true
theorem any_eqU {x:V}:∀ {xs:List V} {us:List Value},Vals xs us→xs.all flatV=true→us.any (eqU x)=xs.any fun y=>eqV y x
 | _,_,.nil,_=>rfl
 | y :: xs,u :: us,.cons r t,f=>by
  rw [List.all_cons,Bool.and_eq_true] at f
  rw [List.any_cons,List.any_cons,eqU_of r f.1,any_eqU t f.2]
theorem mem_eqAt {A:Around} {s:Shared} {x:V} {v:Value} (rx:RelV x v) (fx:flatV x=true):∀ {xs:List V} {us:List Value},Vals xs us→xs.all flatV=true→∀ u∈us,SeqAt.EqAt A s u v (eqU x u)
 | _,_,.nil,_=>fun u hu=>by cases hu
 | y :: xs,u :: us,.cons r t,f=>fun u' hu=>by
  rw [List.all_cons,Bool.and_eq_true] at f
  rcases List.mem_cons.mp hu with rfl | hu
  ·rw [eqU_of r f.1]; exact eqAt_V r rx f.1 fx
  ·exact mem_eqAt rx fx t f.2 u' hu
def inV (x:V) (xs:List V):Bool:=xs.any fun y=>eqV y x
inductive rInI (K:PySem.W.Frag) (neg:Bool) (x:V) (y:V) (H:Hp) (Q:VK):Prop
 | mk (p xs:_) (h1:y=.ref p) (h2:(SqL K H p xs∨SqT K H p xs)) (h3:flatV x=true) (h4:xs.all flatV=true) (h5:Q (.bl (if neg then !inV x xs else inV x xs)) H):rInI K neg x y H Q
def rIn (K:PySem.W.Frag) (neg:Bool):R2:=fun x y H Q=>rInI K neg x y H Q
theorem op_in_seq:OpR X (compareOp .In) (rIn X.K false):=by
 intro pins s σ H x y v u Q I rx ry h
 obtain ⟨p,xs,rfl,hq,fx,fs,q⟩:=h
 cases ry
 rcases hq with hq | hq
 ·obtain ⟨its,r,pl,hz⟩:=I.list hq
  refine SeqAt.in_listAt (eqU x) pl.isList (fun w hw=>mem_eqAt rx fx r fs w (by simpa using hw)) ⟨.bl _,H,I,rfl,?_⟩
  rw [show its.toArray.any (eqU x)=its.any (eqU x) by simp,any_eqU r fs]
  exact q
 ·obtain ⟨its,r,pl,hz⟩:=I.tuple hq
  refine SeqAt.in_tupleAt (eqU x) pl (fun w hw=>mem_eqAt rx fx r fs w (by simpa using hw)) ⟨.bl _,H,I,rfl,?_⟩
  rw [show its.toArray.any (eqU x)=its.any (eqU x) by simp,any_eqU r fs]
  exact q
theorem op_notIn_seq:OpR X (compareOp .NotIn) (rIn X.K true):=by
 intro pins s σ H x y v u Q I rx ry h
 obtain ⟨p,xs,rfl,hq,fx,fs,q⟩:=h
 cases ry
 rcases hq with hq | hq
 ·obtain ⟨its,r,pl,hz⟩:=I.list hq
  refine SeqAt.notIn_listAt (eqU x) pl.isList (fun w hw=>mem_eqAt rx fx r fs w (by simpa using hw)) ⟨.bl _,H,I,rfl,?_⟩
  rw [show its.toArray.any (eqU x)=its.any (eqU x) by simp,any_eqU r fs]
  exact q
 ·obtain ⟨its,r,pl,hz⟩:=I.tuple hq
  refine SeqAt.notIn_tupleAt (eqU x) pl (fun w hw=>mem_eqAt rx fx r fs w (by simpa using hw)) ⟨.bl _,H,I,rfl,?_⟩
  rw [show its.toArray.any (eqU x)=its.any (eqU x) by simp,any_eqU r fs]
  exact q
theorem call_len_seq:CallR X (.builtin "len") (fun xs H Q=>∃ p ys,xs=[.ref p]∧(SqL X.K H p ys∨SqT X.K H p ys)∧Q (.int ys.length) H):=by
 intro pins s σ H xs us Q I r h
 obtain ⟨p,ys,rfl,hq,q⟩:=h
 obtain ⟨u,rfl,rx⟩:=vals1 r
 cases rx
 have hn:=line63
 rcases hq with hq | hq
 ·obtain ⟨its,r',pl,hz⟩:=I.list hq
  have hlen:=r'.length
  exact Calls.call_len_list pl.isList (by simp only [List.size_toArray] <;> omega) ⟨.int ys.length,H,I.tok _,⟨s.toks+1,by rw [List.size_toArray,hlen]⟩,q⟩
 ·obtain ⟨its,r',pl,hz⟩:=I.tuple hq
  have hlen:=r'.length
  exact len_tuple pl (by simp only [List.size_toArray] <;> omega) ⟨.int ys.length,H,I.tok _,⟨s.toks+1,by rw [List.size_toArray,hlen]⟩,q⟩
theorem call_len_str:CallR X (.builtin "len") (fun xs H Q=>∃ z,xs=[.str z]∧z.length≤sizeLine∧Q (.int z.length) H):=by
 intro pins s σ H xs us Q I r h
 obtain ⟨z,rfl,hz,q⟩:=h
 obtain ⟨u,rfl,t,rfl⟩:=vals1 r
 have hn:=line63
 exact len_str (by omega) ⟨.int z.length,H,I.tok _,⟨_,rfl⟩,q⟩
theorem call_list_of:CallR X (.type "list") (fun xs H Q=>∃ p ys,xs=[.ref p]∧(SqL X.K H p ys∨SqT X.K H p ys)∧∀ l,H l=none→Q (.ref l) (upd H l (.lst ys))):=by
 intro pins s σ H xs us Q I r h
 obtain ⟨p,ys,rfl,hq,q⟩:=h
 obtain ⟨u,rfl,rx⟩:=vals1 r
 cases rx
 have fin:∀ (its:List Value),Vals ys its→ys.length≤sizeLine→∀ (h':Heap) (c':Nat),(∀ b o',s.heap.get? b=some o'→h'.get? b=some o')→
   h'.get? s.heap.objs.size=some { cls:=.type "list",dict:=none,data:=.seq its.toArray c',slots:=#[] }→EP X pins σ Q (.ref s.heap.objs.size) { s with heap:=h' }:=fun its r' hz h' c' kp e=>
  ⟨.ref s.heap.objs.size,_,I.laid (t':=s.toks) kp (Nat.le_refl _) (show ObjOk X.prog X.w _ h' _ (.lst ys) from ⟨hz,its,c',r',e⟩),rfl,q _ (I.hok.fresh (Nat.le_refl _))⟩
 rcases hq with hq | hq
 ·obtain ⟨its,r',pl,hz⟩:=I.list hq
  have hlen:=r'.length
  obtain ⟨o,ho,hc,n,hd⟩:=pl.isList
  exact call_list_seq p (.inl rfl) ho hc hd (fun h' c' kp e=>fin its r' hz h' c' kp e) (by simp only [List.size_toArray] <;> omega)
 ·obtain ⟨its,r',pl,hz⟩:=I.tuple hq
  have hlen:=r'.length
  obtain ⟨o,ho,hc,n,hd⟩:=pl
  exact call_list_seq p (.inr rfl) ho hc hd (fun h' c' kp e=>fin its r' hz h' c' kp e) (by simp only [List.size_toArray] <;> omega)
theorem call_tuple_of:CallR X (.type "tuple") (fun xs H Q=>∃ p ys,xs=[.ref p]∧((SqL X.K H p ys∧∀ l,H l=none→Q (.ref l) (upd H l (.tup ys)))∨(SqT X.K H p ys∧Q (.ref p) H))):=by
 intro pins s σ H xs us Q I r h
 obtain ⟨p,ys,rfl,h⟩:=h
 obtain ⟨u,rfl,rx⟩:=vals1 r
 cases rx
 rcases h with ⟨hq,q⟩ | ⟨hq,q⟩
 ·obtain ⟨its,r',pl,hz⟩:=I.list hq
  have hlen:=r'.length
  refine call_tuple_list pl.isList (fun h' kp=>?_) (by simp only [List.size_toArray] <;> omega)
  have I1:Inv X pins σ H { s with heap:=h' }:=I.kept (t':=s.toks) kp
  have I2:Inv X pins σ (upd H h'.objs.size (.tup ys)) { s with heap:=h'.push { cls:=.type "tuple",data:=.seq its.toArray } }:=
   I1.laid (t':=s.toks) (fun b o e=>Heap.get?_push_of_some _ e) (Nat.le_refl _) (show ObjOk X.prog X.w _ _ _ (.tup ys) from ⟨hz,its,r',IsTup.new _ _⟩)
  exact ⟨.ref h'.objs.size,_,I2,rfl,q _ (I1.hok.fresh (Nat.le_refl _))⟩
 ·obtain ⟨its,r',pl,hz⟩:=I.tuple hq
  exact call_tuple_same pl ⟨.ref p,H,I,rfl,q⟩
def tyV (K:PySem.W.Frag) (T:String) (x:V) (H:Hp):Prop:=match x with
 | .str _=>T = "str"
 | .int _=>T = "int"
 | .ref p=>(T = "list"∧∃ xs,SqL K H p xs)∨(T = "tuple"∧∃ o,K.lookup p=some o∧o.cls=.type "tuple"∧o.dict=none)∨
   (T = "dict"∧((∃ kvs,H p=some (.dK kvs))∨∃ kvs,H p=some (.dT kvs)))∨(T = "set"∧∃ S n,H p=some (.set S n))
 | _=>False
theorem tyV_is {pins:List (Addr × Obj)} {σ:St} {H:Hp} {s:Shared} {T:String} {x:V} {v:Value} (I:Inv X pins σ H s) (r:RelV x v) (ty:tyV X.K T x H) :
  s.TypeIs v T∧∀ a,v=.ref a→∃ ob,s.heap.get? a=some ob∧ob.dict=none:=by
 cases x with
 | str z=>
  obtain ⟨t,rfl⟩:=r
  cases (show T = "str" from ty)
  exact ⟨typeIs_str s z t,fun _ e=>nomatch e⟩
 | int i=>
  obtain ⟨t,rfl⟩:=r
  cases (show T = "int" from ty)
  exact ⟨typeIs_int s i t,fun _ e=>nomatch e⟩
 | ref p=>
  cases r
  rcases ty with ⟨rfl,xs,hq⟩ | ⟨rfl,o,hk,hc,hd⟩ | ⟨rfl,hk⟩ | ⟨rfl,S,n,hk⟩
  ·obtain ⟨its,_,pl,_⟩:=I.list hq
   refine ⟨pl.isList.typeIs,fun a e=>?_⟩
   cases e
   obtain ⟨o,n,e,c,hd,_⟩:=pl
   exact ⟨o,e,hd⟩
  ·refine ⟨⟨o,I.kIn p o hk,hc⟩,fun a e=>?_⟩
   cases e
   exact ⟨o,I.kIn _ o hk,hd⟩
  ·have z:∃ o,s.heap.get? p=some o∧o.ExactDict:=by
    rcases hk with ⟨kvs,hk⟩ | ⟨kvs,hk⟩
    ·obtain ⟨_,_,_,_,o,_,_,e,ex,_⟩:=I.hok p _ hk
     exact ⟨o,e,ex⟩
    ·obtain ⟨_,_,_,_,o,_,_,e,ex,_⟩:=I.hok p _ hk
     exact ⟨o,e,ex⟩
   obtain ⟨o,e,ex⟩:=z
   refine ⟨⟨o,e,ex.1⟩,fun a e2=>?_⟩
   cases e2
   exact ⟨o,e,ex.2.1⟩
  ·obtain ⟨o,_,_,_,e,ex,_⟩:=I.hok p _ hk
   refine ⟨⟨o,e,ex.1⟩,fun a e2=>?_⟩
   cases e2
   exact ⟨o,e,ex.2.1⟩
 | _=>exact False.elim ty
def tBM (K:PySem.W.Frag) (T:String) (r:V→List V→Hp→VK→Prop) (to:TE) (t:TA):TE:=fun σ H Q=>to σ H fun x H1=>tyV K T x H1∧t σ H1 fun xs H2=>r x xs H2 Q
variable {o e:Expr} {es:List Expr} {to:TE} {t:TA} {name:Str} {apos cpos:Pos} {T id:String} {r:V→List V→Hp→VK→Prop}
theorem pe_bm (pa:PlainAttrs T) (slot:Slot T name id) (hty:typeOf (.builtin id)=pure (.type "method_descriptor")) (hm:MtR X id r) (ho:PE X o to) (ha:PA X (e :: es) t)
  (hbase:attributeBase o name X.env (eval o X.env)=eval o X.env:=by rfl)
  (hfew:((backTo cpos (starEach (e :: es) X.env)).all (fun x=>!x.1) && (backToKw cpos (keywordEach [] X.env)).all (fun x=>x.1.isSome)
   && decide ((e :: es).length+([]:List Keyword).length+(if ([]:List Keyword).isEmpty then 0 else 1) < 30))=true:=by rfl)
  (hline:(apos.endLine==cpos.line)=true:=by rfl) (hs:starEach (e :: es) X.env=(false,eval e X.env) :: starEach es X.env:=by rfl) (hplain:(backTo cpos (starEach es X.env)).any (·.1)=false:=by rfl) :
  PE X (.Call (.Attribute o name apos) (e :: es) [] cpos) (tBM X.K T r to t):=by
 intro pins s σ H Q I h
 refine wpAny_Call_method_late hbase hfew hline rfl (thn (ho pins s σ H _ I h) fun v s1 ⟨x,H1,I1,r1,ty,q1⟩=>?_)
 obtain ⟨h1,h2⟩:=tyV_is I1 r1 ty
 refine ⟨T,id,pa,slot,hty,h1,h2,?_⟩
 have hA:=ha cpos pins s1 σ H1 _ I1 q1
 rw [hs] at hA ⊢
 refine Calls.callWith_builtin (by show (false || (backTo cpos (starEach es X.env)).any (·.1))=false; rw [hplain] <;> rfl) (Calls.evalArgs_plain ?_)
 exact thn hA fun us s2 ⟨vs,H2,I2,r2,q2⟩=>hm pins s2 σ H2 x vs v us Q I2 r1 r2 q2
end
end L2
namespace L2
open PySem PySem.Spec PyProof.Rows
def MtM (X:Cx) (id:String) (r:V→List V→Hp→VK→Prop):Prop:=
 ∀ (pins:List (Addr × Obj)) (s:Shared) (σ:St) (H:Hp) (x:V) (xs:List V) (v:Value) (us:List Value) (Q:VK),Inv X pins σ H s→RelV x v→Vals xs us→r x xs H Q→
  wpAny (model X.prog X.w) X.A (call (.builtin id) (v :: us)) (EP X pins σ Q) X.xe s
theorem Vals.one:∀ {x:V} {us:List Value},Vals [x] us→∃ u,us=[u]∧RelV x u
 | _,_,.cons r .nil=>⟨_,rfl,r⟩
theorem Vals.eraseIdx:∀ {xs:List V} {us:List Value} (i:Nat),Vals xs us→Vals (xs.eraseIdx i) (us.eraseIdx i)
 | _,_,_,.nil=>.nil
 | _,_,0,.cons _ t=>t
 | _,_,i+1,.cons r t=>.cons r (Vals.eraseIdx i t)
theorem Vals.rep {xs:List V} {us:List Value} (h:Vals xs us):∀ k:Nat,Vals (List.replicate k xs).flatten (List.replicate k us).flatten
 | 0=>.nil
 | k+1=>by
  rw [List.replicate_succ,List.replicate_succ,List.flatten_cons,List.flatten_cons]
  exact Vals.append h (Vals.rep h k)
theorem len_erase {α:Type}:∀ (l:List α) (i:Nat),(l.eraseIdx i).length≤l.length
 | [],_=>Nat.le_refl _
 | _ :: _,0=>Nat.le_succ _
 | _ :: r,i+1=>Nat.succ_le_succ (len_erase r i)
theorem foldl_rep (its:List Value):∀ (k:Nat) (acc:List Value),
  List.foldl (fun x1 x2=>x1 ++ x2) acc.toArray (List.replicate k its.toArray)=(acc ++ (List.replicate k its).flatten).toArray
 | 0,acc=>by simp
 | k+1,acc=>by
  have e:acc.toArray ++ its.toArray=(acc ++ its).toArray:=by simp
  have e2:(acc ++ its) ++ (List.replicate k its).flatten=acc ++ (List.replicate (k+1) its).flatten:=by
   rw [List.replicate_succ,List.flatten_cons,List.append_assoc]
  rw [← e2,← foldl_rep its k (acc ++ its),← e,List.replicate_succ,List.foldl_cons]
section
variable {X:Cx} {pins:List (Addr × Obj)} {σ:St} {H:Hp} {s:Shared} {l b:Addr} {xs ys zs:List V}
theorem Inv.lset {its its':List Value} {n:Nat} {f:Array Value→Array Value} {t':Nat} (I:Inv X pins σ H s) (hH:H l=some (.lst xs))
  (e:s.heap.get? l=some { cls:=.type "list",data:=.seq its.toArray n }) (hf:f its.toArray=its'.toArray) (hv:Vals ys its') (hz:ys.length≤sizeLine) :
  Inv X pins σ (upd H l (.lst ys)) { s with heap:=s.heap.update l (Obj.mapSeq f),toks:=t' }:=by
 have q:=PySem.IsL.update e f
 rw [hf] at q
 refine I.write (x:=l) (e:=l) (by rw [hH]; exact trivial) (.inl rfl) (fun b' u hb hu=>(Heap.get?_update_other s.heap (Obj.mapSeq f) (Ne.symm hb)).trans hu) ⟨_,q⟩ ?_
 exact ⟨hz,its',_,hv,q⟩
theorem Inv.lnew {its:List Value} {t':Nat} (I:Inv X pins σ H s) (hv:Vals ys its) (hz:ys.length≤sizeLine) :
  Inv X pins σ (upd H s.heap.objs.size (.lst ys)) { s with heap:=s.heap.push { cls:=.type "list",data:=.seq its.toArray },toks:=t' }:=
 I.laid (fun _ _ q=>Heap.get?_push_of_some _ q) (Nat.le_refl _) ⟨hz,its,0,hv,Heap.get?_push_size _ rfl⟩
theorem Inv.fresh (I:Inv X pins σ H s):H s.heap.objs.size=none:=I.hok.fresh (Nat.le_refl _)
theorem Inv.lstM (I:Inv X pins σ H s) (hH:H l=some (.lst xs)):xs.length≤sizeLine∧∃ (its:List Value) (n:Nat),Vals xs its∧xs.length=its.length∧s.heap.get? l=some { cls:=.type "list",data:=.seq its.toArray n }:=by
 obtain ⟨z,its,n,r,e⟩:=I.hok l _ hH
 exact ⟨z,its,n,r,r.length,e⟩
end
section
variable {X:Cx}
inductive rAppendI (x:V) (vs:List V) (H:Hp) (Q:VK):Prop
 | mk (l xs y:_) (h1:x=.ref l) (h2:vs=[y]) (h3:H l=some (.lst xs)) (h4:xs.length < sizeLine) (h5:Q .non (upd H l (.lst (xs ++ [y])))):rAppendI x vs H Q
def rAppend:V→List V→Hp→VK→Prop:=fun x vs H Q=>rAppendI x vs H Q
theorem mt_append:MtM X "list.append" rAppend:=by
 intro pins s σ H x vs v us Q I rx rv h
 obtain ⟨l,xs,y,rfl,rfl,hH,hz,q⟩:=h
 cases rx
 obtain ⟨u,rfl,ru⟩:=rv.one
 obtain ⟨z,its,n,r,hl,e⟩:=I.lstM hH
 refine call_meets F.slot_list_append ⟨_,e,rfl⟩ F.entry_list_append (F.args_list_append_2 _ _) (PySem.list_append l its.toArray n u (by rw [List.size_toArray]; omega)) ⟨e,?_⟩
 refine ⟨.non,_,I.lset (its':=its ++ [u]) hH e (by simp) (r.append (.cons ru .nil)) ?_,rfl,q⟩
 rw [List.length_append,List.length_singleton]
 omega
inductive rPopAtI (x:V) (vs:List V) (H:Hp) (Q:VK):Prop
 | mk (l xs i k y:_) (h1:x=.ref l) (h2:vs=[.int i]) (h3:H l=some (.lst xs)) (h4 : -(2 ^ 63)≤i) (h5:i < 2 ^ 63) (h6:seqIndex? i xs.length=some k) (h7:xs[k]? = some y) (h8:Q y (upd H l (.lst (xs.eraseIdx k)))):rPopAtI x vs H Q
def rPopAt:V→List V→Hp→VK→Prop:=fun x vs H Q=>rPopAtI x vs H Q
theorem mt_popAt:MtM X "list.pop" rPopAt:=by
 intro pins s σ H x vs v us Q I rx rv h
 obtain ⟨l,xs,i,k,y,rfl,rfl,hH,h1,h2,hk,hy,q⟩:=h
 cases rx
 obtain ⟨u,rfl,ru⟩:=rv.one
 obtain ⟨t,rfl⟩:=ru
 obtain ⟨z,its,n,r,hl,e⟩:=I.lstM hH
 obtain ⟨w,hw,rw'⟩:=r.get hy
 refine call_meets F.slot_list_pop ⟨_,e,rfl⟩ F.entry_list_pop (F.args_list_pop_2 _ _)
  (MeetsSeq.list_pop_at l its.toArray n i t k w (fitsIndex_both h1 h2) (by rw [List.size_toArray,← hl]; exact hk) (by rw [← Array.getElem?_toList]; exact hw) (by rw [List.size_toArray]; omega)) ⟨e,?_⟩
 refine ⟨y,_,I.lset (its':=its.eraseIdx k) hH e ?_ (r.eraseIdx k) ?_,rw',q⟩
 ·show its.toArray.eraseIdxIfInBounds k=(its.eraseIdx k).toArray
  rw [List.eraseIdxIfInBounds_toArray]
 ·have:=len_erase xs k
  omega
inductive rCatI (x:V) (y:V) (H:Hp) (Q:VK):Prop
 | mk (l b xs zs:_) (h1:x=.ref l) (h2:y=.ref b) (h3:H l=some (.lst xs)) (h4:H b=some (.lst zs)) (h5:xs.length+zs.length≤sizeLine) (h6:∀ p,H p=none→Q (.ref p) (upd H p (.lst (xs ++ zs)))):rCatI x y H Q
def rCat:R2:=fun x y H Q=>rCatI x y H Q
theorem op_cat:OpR X (binaryOp .Add) rCat:=by
 intro pins s σ H x y v u Q I rx ry h
 obtain ⟨l,b,xs,zs,rfl,rfl,hH,hB,hz,q⟩:=h
 cases rx
 cases ry
 obtain ⟨z,its,n,r,hl,e⟩:=I.lstM hH
 obtain ⟨z2,its2,n2,r2,hl2,e2⟩:=I.lstM hB
 refine PySem.P.add_list e e2 ?_ (by rw [List.size_toArray,List.size_toArray]; omega)
 have ea:its.toArray ++ its2.toArray=(its ++ its2).toArray:=by simp
 rw [ea]
 exact ⟨.ref _,_,I.lnew (t':=s.toks) (r.append r2) (by rw [List.length_append]; omega),rfl,q _ I.fresh⟩
theorem len_rep {α:Type} (xs:List α) (k:Nat):(List.replicate k xs).flatten.length=k * xs.length:=by
 induction k with
 | zero=>simp
 | succ k ih=>rw [List.replicate_succ,List.flatten_cons,List.length_append,ih,Nat.succ_mul,Nat.add_comm]
end
section
variable {prog:Program} {w:World} {A:Around} {E:Value→Shared→Prop} {s:Shared}
set_option maxRecDepth 100000 in
end
section
variable {X:Cx}
end
end L2
namespace Att
open PySem PySem.W PySem.Calls PyProof.Rows
theorem ints_of_wellAll {P:Params} {h:Heap}:∀ (ns:List Int) (vs:List Value),WellAll P h vs (ns.map WData.int)→IntsAre vs ns:=by
 intro ns
 induction ns with
 | nil=>
  intro vs w
  rw [List.map_nil] at w
  cases w
  exact .nil
 | cons n ns ih=>
  intro vs w
  rw [List.map_cons] at w
  cases w with
  | cons a b=>
   cases a
   exact .cons _ _ (ih _ b)
theorem script_of {l:OpenLaw} {n:Nat} (hn:l.most=some n) {P:Params} {h:Heap} {args:List WData} {vals:List Value}
  (hpre:l.row.toRowW.claim.pre args=true) (hwl:WellAll P h vals args) :
  ∃ a vs ns,vals=[Value.ref a]∧args=[WData.list (ns.map WData.int)]∧h.get? a=some { cls:=.type "list",data:=.seq vs.toArray }∧IntsAre vs ns∧ns.length≤n:=by
 have hsh:WShape.hasAll [] args [.list .int]=true:=(pre_splitW hpre).1
 have hc:l.pre.holds [] { args:=args } = true:=(pre_splitW hpre).2
 obtain ⟨d,r,rfl,h1,h2⟩:=hasAllW_cons hsh
 obtain rfl:=hasAllW_nil h2
 obtain ⟨xs,rfl,h3⟩:=hasW_list h1
 obtain ⟨ns,rfl⟩:=items_int h3
 have hlen:ns.length≤n:=by
  unfold OpenLaw.pre at hc
  have h4:(WTm.not (.lt (.lit (.int (n:Int))) (.len (.arg 0)))).holds [] { args:=[.list (ns.map .int)] } = true:=by
   have h4:=(holds_andW hc).1
   rw [hn] at h4
   exact h4
  have h5:=condW_of h4 (w_not (w_lt w_lit (w_len_list (w_arg rfl))))
  rw [List.length_map] at h5
  refine Nat.le_of_not_lt fun q=>?_
  have q':(n:Int) < ((ns.length:Nat):Int):=by omega
  first
   | (rw [decide_eq_true q'] at h5; exact absurd h5 (by decide))
   | (simp at h5; omega)
 cases hwl with
 | cons w1 w2=>
  cases w2
  cases w1 with
  | list ho hall=>exact ⟨_,_,ns,rfl,rfl,ho,ints_of_wellAll ns _ hall,hlen⟩
theorem post_true (l:OpenLaw) (args:List WData):l.row.toRowW.claim.post args (.bool true) args=true:=
 postW_of (r:=l.row.toRowW) (X:=(true==true))
  (show WShape.has [] (.bool true) .bool=true by first | rfl | decide | simp [WShape.has,WShape.arms,WShape.armsAll])
  (show (WTm.eq .res (.lit (.bool true))).value [] { args:=args,res:=some (.bool true),after:=args } = some (.bool (true==true)) from w_eq_bool (w_res rfl) w_lit) rfl
theorem attach_call {l:OpenLaw} {n:Nat} {q:Program} {loose:List Str} {XP:(Str→Option Value)→Heap→Prop} {YP:World→Heap→Prop} {d:DefRec}
  (hn:l.most=some n) (hdf:d.params.defaults=[])
  (call:∀ (w:World) (s₀ s₁:Shared) (mg mb:Str→Option Value) (fa:Addr) (o:Obj) (pm cd doc:Value) (a:Addr) (vs:List Value) (ns:List Int),
   Ground q loose [] XP w s₀ mg mb s₁.heap→YP w s₁.heap→
   s₁.heap.get? fa=some o→o.data=.func (docDef d.name d.params d.body d.scope pm cd doc)→s₁.heap.CodeRec cd d.name→mg d.name=some (.ref fa)→
   s₁.heap.get? a=some { cls:=.type "list",data:=.seq vs.toArray }→IntsAre vs ns→ns.length≤n→s₁.gens = #[]→
   codeAny (model l.prog w) callerA (.call (.ref fa) ⟨[.ref a],[]⟩) (fun r s'=>r=.ok (.ret (.bool true))∧OldK s₁.heap s'.heap∧s'.os=s₁.os∧AllBare s'.gens) s₁) :
  WalkO q loose XP YP l.row.toRowW d [] (fun f vs=>PySem.call f vs):=by
 intro w s₀ s₁ mg mb G Y fa o pm cd doc dV kV ho hd hcd hD hmg hg args vals as hpre hlay hrd hwl hlo
 obtain rfl:dV=.none:=Dflts.none hD hdf
 obtain rfl:kV=.none:=Dflts.noKw hD
 obtain ⟨a,vs,ns,rfl,rfl,hobj,hints,hlen⟩:=script_of hn hpre hwl
 refine enter_call (codeAny_mono (call w s₀ s₁ mg mb fa o pm cd doc a vs ns G Y ho (fd_plain hd) hcd hmg hobj hints hlen hg) fun r s' hq=>?_)
 obtain ⟨rfl,h2,h3,h4⟩:=hq
 exact ⟨.inl ⟨.bool true,.bool true,[],rfl,fun _=>rfl,.bool true,post_true l _,fun _=>⟨List.Pairwise.nil,fun _ hm=>(nomatch hm)⟩⟩,h2,h3,h4⟩
section
variable {prog:Program} {w:World} {A:Around} {E:Value→Shared→Prop} {s:Shared} {K:Frag}
def ledger (h:Heap) (L d:Addr):List (Addr × Obj):=(List.range h.objs.size).filterMap fun a=>if a=L∨a=d then none else (h.get? a).map fun o=>(a,o)
end
end Att
namespace L2
open PySem PySem.Spec PyProof.Rows
theorem vals_ints:∀ {vs:List Value} {ns:List Int},IntsAre vs ns→Vals (ns.map V.int) vs
 | _,_,.nil=>.nil
 | _,_,.cons n t h=>.cons ⟨t,rfl⟩ (vals_ints h)
def Only (H:Hp):Prop:=∀ b,H b=none∨∃ o xs,H b=some (.frz o (.lst xs))
theorem law_call {P:Program} {w:World} {K:PySem.W.Frag} {mg mb:Str→Option Value} {CX:CXT} {k:Nat} {fa a:Addr} {fd:FuncData} {x:Str} {sp:Sp} {s₁:Shared} {vs:List Value} {ns:List Int}
  (KX:K.In s₁.heap) (hns:s₁.heap.Ns mainGlobals mg) (hb:s₁.heap.Ns builtinsNs mb) (hbb:∀ x:Str,x≠"__name__"→mb x=bootBuiltins x) (hlim:s₁.heap.NoLimit) (hg:s₁.gens = #[])
  (ha:s₁.heap.get? a=some { cls:=.type "list",data:=.seq vs.toArray }) (hi:IntsAre vs ns) (hl:ns.length≤sizeLine) (hr:Room k callerA)
  (F:∀ base:Heap,K.In base→base.Ns mainGlobals mg→FnOk P w K mg base CX k fa fd [x] sp) (hbind:∀ (s:Shared) (u:Value),BindsTo s fd ⟨[u],[]⟩ [(x,u)])
  (hsp:∀ H:Hp,Only H→SqL K H a (ns.map V.int)→sp [.ref a] H (fun v _=>v=.bl true) fun _ _ _=>False)
  (hCX:∀ H e s',CX [] H s₁ (fun _ _ _=>False) e s'→False) :
  codeAny (model P w) callerA (.call (.ref fa) ⟨[.ref a],[]⟩) (fun r s'=>r=.ok (.ret (.bool true))∧OldK s₁.heap s'.heap∧s'.os=s₁.os∧AllBare s'.gens) s₁:=by
 have rv:=vals_ints hi
 have lenV:=hi.length
 have core:∀ H:Hp,Only H→SqL K H a (ns.map V.int)→HOk P w H s₁.heap→(∀ b,H b≠none→b=a)→(H a≠none→K.lookup a=none)→
   codeAny (model P w) callerA (.call (.ref fa) ⟨[.ref a],[]⟩) (fun r s'=>r=.ok (.ret (.bool true))∧OldK s₁.heap s'.heap∧s'.os=s₁.os∧AllBare s'.gens) s₁:=by
  intro H hO hS hok hA hK
  have base_of:∀ {b:Addr} {o:Obj},s₁.heap.get? b=some o→H b=none→(hidT s₁.heap H).get? b=some o:=fun e n=>hidT_get e n
  have noA:∀ {b:Addr} {o:Obj} {es:Array DictEntry} {ep:Nat},s₁.heap.get? b=some o→o.data=.dict es ep→H b=none:=fun {b o es ep} e d=>by
   cases q:H b with
   | none=>rfl
   | some u=>
    have e':b=a:=hA b (by rw [q]; simp)
    subst e'
    rw [ha] at e; cases e
    have d':Data.seq vs.toArray _=Data.dict es ep:=d
    cases d'
  have nsK:∀ {b:Addr} {m:Str→Option Value},s₁.heap.Ns b m→(hidT s₁.heap H).Ns b m:=fun {b m} ⟨o,es,ep,e,d,r⟩=>⟨o,es,ep,base_of e (noA e d),d,r⟩
  have hKb:K.In (hidT s₁.heap H):=fun b o e=>base_of (KX b o e) (by
   cases q:H b with
   | none=>rfl
   | some u=>
    have e':b=a:=hA b (by rw [q]; simp)
    subst e'
    rw [hK (by rw [q]; simp)] at e; cases e)
  have hM:Mod K mg (hidT s₁.heap H):=⟨hKb,nsK hns,⟨mb,nsK hb,hbb⟩,let ⟨mc,h1,h2⟩:=hlim; ⟨mc,nsK h1,h2⟩⟩
  have e0:Env0 P w K mg (hidT s₁.heap H) callerA [] s₁ H:=⟨rfl,hM,fun b o e=>of_hidT e,Nat.le_of_eq (hidT_size _ _),trivial,fun b hb=>absurd (show b∈([]:List Addr) from hb) (by simp),hok,.of_eq hg⟩
  refine codeAny_mono ((F _ hKb (nsK hns)).run callerA [] s₁ H ⟨[.ref a],[]⟩ [.ref a] [.ref a] _ _ hr e0 (hbind s₁ (.ref a)) (.cons rfl .nil) (hsp H hO hS)) fun r s' h=>?_
  cases r with
  | error e=>exact (hCX H e s' h).elim
  | ok fl=>
   cases fl with
   | next=>exact False.elim h
   | brk=>exact False.elim h
   | cont=>exact False.elim h
   | ret u=>
    obtain ⟨v,H',os,bare,un,hok',r',q⟩:=h
    have q':v=.bl true:=q
    subst q'
    obtain rfl:u=Value.bool true:=r'
    refine ⟨rfl,OldK.of_keep fun b o e=>?_,os,bare⟩
    cases q:H b with
    | none=>exact un.keep b o e q (by intro z; exact absurd (show b∈([]:List Addr) from z) (by simp)) (by simp)
    | some u=>
     rcases hO b with z | ⟨ob,xs,z⟩
     ·rw [q] at z; cases z
     ·have z2:=un.frzs b ob _ z
      obtain ⟨e1,_⟩:=hok b _ z
      obtain ⟨e2,_⟩:=hok' b _ z2
      rw [e] at e1; cases e1
      exact e2
 cases hk:K.lookup a with
 | some o=>
  have e:=KX a o hk
  rw [ha] at e
  cases e
  refine core (fun _=>none) (fun _=>.inl rfl) (.inr ⟨_,vs.toArray,_,hk,rfl,rfl,rfl,by rw [List.size_toArray,lenV]; exact hl,by simpa using rv⟩) (fun b u z=>by have z':(none:Option HO)=some u:=z; cases z') (fun b z=>absurd rfl z) fun z=>absurd rfl z
 | none=>
  refine core (fun b=>if b=a then some (.frz { cls:=.type "list",data:=.seq vs.toArray } (.lst (ns.map V.int))) else none) (fun b=>?_) (.inl (.inr ⟨{ cls:=.type "list",data:=.seq vs.toArray },if_pos rfl⟩)) (fun b u z=>?_) (fun b z=>?_) fun _=>hk
  ·by_cases hb:b=a
   ·exact .inr ⟨_,_,if_pos hb⟩
   ·exact .inl (if_neg hb)
  ·by_cases hb:b=a
   ·have z':=(if_pos hb).symm.trans z
    cases z'
    subst hb
    exact ⟨ha,by rw [List.length_map]; exact hl,vs,_,rv,ha⟩
   ·have z':=(if_neg hb).symm.trans z
    cases z'
  ·by_cases hb:b=a
   ·exact hb
   ·exact absurd (if_neg hb) z
end L2
namespace L2
open PySem PySem.Spec PyProof.Rows
abbrev KOf {K:PySem.W.Frag} {h:Heap} (_:K.In h):PySem.W.Frag:=K
theorem walk_of {l:PySem.W.OpenLaw} {n k:Nat} {q:Program} {loose:List Str} {XP:(Str→Option Value)→Heap→Prop} {YP:World→Heap→Prop} {d:DefRec} {K:Params→PySem.W.Frag} {CX:World→CXT} {sp:World→Sp} {x:Str}
  (hn:l.most=some n) (hn2:n≤sizeLine) (hdf:d.params.defaults=[]) (hr:Room k callerA)
  (hY:∀ (w:World) (h:Heap),YP w h→(K w.params).In h)
  (F:∀ (w:World) (mg:Str→Option Value) (fa:Addr) (h:Heap),(K w.params).In h→h.Ns mainGlobals mg→mg d.name=some (.ref fa)→
   ∃ fd:FuncData,(∀ (s:Shared) (u:Value),BindsTo s fd ⟨[u],[]⟩ [(x,u)])∧
    ∀ base:Heap,(K w.params).In base→base.Ns mainGlobals mg→FnOk l.prog w (K w.params) mg base (CX w) k fa fd [x] (sp w))
  (hsp:∀ (w:World) (H:Hp) (a:Addr) (ns:List Int),ns.length≤n→Only H→SqL (K w.params) H a (ns.map V.int)→sp w [.ref a] H (fun v _=>v=.bl true) fun _ _ _=>False)
  (hCX:∀ (w:World) (H:Hp) (s:Shared) (e:Value) (s':Shared),CX w [] H s (fun _ _ _=>False) e s'→False) :
  PySem.W.WalkO q loose XP YP l.row.toRowW d [] (fun f vs=>PySem.call f vs):=by
 refine Att.attach_call hn hdf fun w s₀ s₁ mg mb fa o pm cd doc a vs ns G Y ho hd hcd hmg hobj hints hlen hg=>?_
 have KX:=hY w _ Y
 obtain ⟨fd,hb,hF⟩:=F w mg fa _ KX G.T.g hmg
 exact law_call KX G.T.g G.T.b G.T.builtins G.T.nolimit hg hobj hints (Nat.le_trans hlen hn2) hr hF hb (fun H hO hS=>hsp w H a ns hlen hO hS) fun H e s'=>hCX w H s₁ e s'
end L2
/- THE LAST THEOREM (shape; LID,My.* are yours):
   My.Adr: a structure of the addresses that your layer names (classes,functions); My.Txt K t: a structure (Prop) of the equations over K;
   My.txt_mk:{K} {implicit addresses ..} (e1:nsIn K mainGlobals "law" = some (some (.ref f))) (e2:K.lookup f=some ⟨oc,od,.func (fnOf "law" "law" params body scope dV kV doc pm an cdv ct),sl⟩) (e3:codeIn K cdv "law" = true) .. : ∃ t,My.Txt K t
set_option maxRecDepth 100000 in
set_option maxHeartbeats 0 in
theorem PySem.Challenge.cw_LID_holds : PySem.Challenge.rw_LID.Holds := by
 w_on; o_law; k_head; (case hw=>w_witness2)
 k_fill
 refine L2.walk_of (l:=PySem.Challenge.rw_LID) (n:=63) (k:=40) (x:="script") (CX:=fun w=>..) (sp:=fun _=>My.sp_law) rfl (by decide) rfl ⟨rfl,by decide,by decide⟩ (fun w h Y=>PySem.W.kIn_of Y) ?F ?S ?C
 case F=>
  intro w mg fa h KX G hmg
  have T:∃ t,My.Txt (L2.KOf KX) t:=by
   dsimp only [L2.KOf]                          -- K must stand as «<heap const> w.params» for k_is
   refine' My.txt_mk ?e1 ?e2 ?e3 ..
   (case e1=>PySem.W.k_is)                    -- in the order: a name -> its address -> its object -> its parts
   (case e2=>PySem.W.k_is)
   ..
  obtain ⟨t,T⟩:=T
  have e0:=hmg.symm.trans (PySem.W.mg_of KX G T.law)
  cases e0                                       -- fa is the law's own address
  exact ⟨_,fun s u=>.of_eq rfl,fun base kb nb=>My.law_fn T kb nb⟩     -- if «.of_eq rfl» comes too early: refine' ⟨_,?b,fun base kb nb=>My.law_fn T kb nb⟩; exact fun s u=>.of_eq rfl
 case S=>exact fun w H a ns hl hO hS=>..
 case C=>exact ..
(the tactic k_is has no namespace: write k_is) -/
namespace L2
open PySem PySem.Spec PyProof.Rows
def defArgs (s:Stmt):Arguments:=match s with
 | .FunctionDef _ a _ _ _ _ _ _ _ _=>a
 | _=>{ posonlyargs:=[],args:=[],vararg:=none,kwonlyargs:=[],kw_defaults:=[],kwarg:=none,defaults:=[] }
def defBody (s:Stmt):List Stmt:=match s with
 | .FunctionDef _ _ b _ _ _ _ _ _ _=>b
 | _=>[]
def defScope (s:Stmt):Scope:=match s with
 | .FunctionDef _ _ _ _ _ _ sc _ _ _=>sc
 | _=>{ kind:=.function,names:=[],isGenerator:=false,isCoroutine:=false }
abbrev CX0:CXT:=fun _ _ _ _ _ _=>False
abbrev E0:XK:=fun _ _ _=>False
theorem pass0 {X:Cx}:Passes CX0 X E0:=fun _ _ _ _ _ _ _ h=>h.elim
structure Fun (K:PySem.W.Frag) (x qual:Str) (st:Stmt) (f:Addr) (fd:FuncData):Prop where
 ex:∃ (oc:Value) (od:Option Addr) (kV doc pm:Value) (an:Option Addr) (cdv ct:Value) (osl:Array (Option Value)),
  fd=PySem.W.fnOf x qual (defArgs st) (defBody st) (defScope st) .none kV doc pm an cdv ct∧K.lookup f=some ⟨oc,od,.func fd,osl⟩∧PySem.W.codeIn K cdv qual=true
 kp:PySem.W.keepIn K (.ref f)=true
section
variable {P:Program} {w:World} {K:PySem.W.Frag} {mg:Str→Option Value} {base:Heap}
theorem Fun.ok {x qual:Str} {st:Stmt} {f:Addr} {fd:FuncData} {N ps:List Str} {k:Nat} {sp:Sp} (F:Fun K x qual st f fd) (S:FnScope N ps (defScope st)) (len:∀ vs H Q E,sp vs H Q E→vs.length=ps.length)
  (hbody:∀ (cdv:Value) (A:Around) (outer:List Env) (s:Shared) (H:Hp) (vs:List V) (Q:VK) (E:XK),Room k (A.deeper (envOfC qual (defScope st) s.heap.objs.size f cdv))→sp vs H Q E→
   ∃ t,PSs (cxOf CX0 P w K mg base N qual (defScope st) f cdv A outer s H E).nox (defBody st) t∧t { nx:=fun _ H'=>Q .non H',rt:=Q } (start N vs) H):FnOk P w K mg base CX0 (k+1) f fd ps sp:=by
 obtain ⟨oc,od,kV,doc,pm,an,cdv,ct,osl,rfl,lk,hcd⟩:=F.ex
 refine fn_of lk hcd S len fun A outer s H vs Q E hr hsp=>?_
 obtain ⟨t,h,q⟩:=hbody cdv A outer s H vs Q E hr hsp
 exact ⟨t,h.nox,q⟩
theorem Fun.binds {x qual:Str} {st:Stmt} {f:Addr} {fd:FuncData} {ps:List Str} (F:Fun K x qual st f fd)
  (h:∀ (kV doc pm:Value) (an:Option Addr) (cdv ct:Value) (us:List Value),us.length=ps.length→bindArgs (PySem.W.fnOf x qual (defArgs st) (defBody st) (defScope st) .none kV doc pm an cdv ct) ⟨us,[]⟩=pure (ps.zip us)):Binds K fd ps []:=by
 obtain ⟨oc,od,kV,doc,pm,an,cdv,ct,osl,rfl,lk,hcd⟩:=F.ex
 exact .all (h kV doc pm an cdv ct)
theorem fun_mk {x qual:Str} {st:Stmt} {f:Addr} {oc:Value} {od an:Option Addr} {osl:Array (Option Value)} {kV doc pm cdv ct:Value} (l:K.lookup f=some ⟨oc,od,.func (PySem.W.fnOf x qual (defArgs st) (defBody st) (defScope st) .none kV doc pm an cdv ct),osl⟩)
  (c:PySem.W.codeIn K cdv qual=true) (k:PySem.W.keepIn K (.ref f)=true):Fun K x qual st f (PySem.W.fnOf x qual (defArgs st) (defBody st) (defScope st) .none kV doc pm an cdv ct):=⟨⟨oc,od,kV,doc,pm,an,cdv,ct,osl,rfl,l,c⟩,k⟩
end
theorem hu_of {A:Around} {k:Nat} (hr:Room k A):A.units+1 < cLine:=Nat.lt_of_le_of_lt (Nat.add_le_add_left (by decide:1≤64) _) hr.units
theorem small1000 {n:Nat} (h:n≤1000):n < sizeLine:=Nat.lt_of_le_of_lt h (by decide)
section
variable {X:Cx}
theorem pv (i:Nat) {x:Str} {pos:Pos} (hN:X.N[i]? = some x:=by rfl) (hv:Vis X.env.scope x:=by first | exact Or.inl rfl | exact Or.inr (Or.inl rfl) | exact Or.inr (Or.inr rfl)) (hd:(x==("__debug__" : Str))=false:=by decide)
  (hcd:(x==("__classdict__" : Str))=false:=by decide):PE X (.Name x pos) (tVar i):=pe_var hN hv hd hcd
end
theorem iteF {A B:Prop} (h:B):if false=true then A else B:=by
 rw [if_neg Bool.false_ne_true]
 exact h
theorem iteT {A B:Prop} (h:A):if true=true then A else B:=by
 rw [if_pos rfl]
 exact h
theorem ite2 {c A B:Prop} [Decidable c] (h1:c→A) (h2:¬ c→B):if c then A else B:=by
 by_cases h:c
 ·rw [if_pos h]
  exact h1 h
 ·rw [if_neg h]
  exact h2 h
def Same (H H':Hp):Prop:=∀ b o,H b=some o→H' b=some o
theorem Same.refl (H:Hp):Same H H:=fun _ _ h=>h
theorem Same.trans {H H1 H2:Hp} (a:Same H H1) (b:Same H1 H2):Same H H2:=fun c o h=>b c o (a c o h)
theorem Same.free {H H':Hp} (e:Same H H') {l:Addr} (h:H' l=Option.none):H l=Option.none:=by
 cases q:H l with
 | none=>rfl
 | some o=>
  rw [e l o q] at h
  cases h
end L2
namespace L2
open PySem PySem.Spec PyProof.Rows
section
variable {κ:Type} [DecidableEq κ]
def valV (kvs:List (κ × V)) (k:κ):Option V:=(kvs.find? fun kv=>decide (kv.1=k)).map (·.2)
def putK (kvs:List (κ × V)) (k:κ) (v:V):List (κ × V):=
 if (kvs.any fun kv=>decide (kv.1=k))=true then kvs.map (fun kv=>if kv.1=k then (kv.1,v) else kv) else kvs ++ [(k,v)]
theorem valV_nil {k:κ}:valV ([]:List (κ × V)) k=none:=rfl
theorem valV_pos {p:κ × V} {r:List (κ × V)} {k:κ} (e:p.1=k):valV (p :: r) k=some p.2:=by simp [valV,List.find?_cons,e]
theorem valV_neg {p:κ × V} {r:List (κ × V)} {k:κ} (e:¬ p.1=k):valV (p :: r) k=valV r k:=by simp [valV,List.find?_cons,e]
theorem valV_any (k:κ):∀ kvs:List (κ × V),(kvs.any fun kv=>decide (kv.1=k))=(valV kvs k).isSome
 | []=>rfl
 | p :: r=>by
  rw [List.any_cons]
  by_cases e:p.1=k
  ·simp only [valV_pos e,decide_eq_true e,Bool.true_or,Option.isSome_some]
  ·rw [valV_neg e,decide_eq_false e,Bool.false_or]; exact valV_any k r
theorem valV_map (k j:κ) (y:V):∀ kvs:List (κ × V),valV (kvs.map fun kv=>if kv.1=k then (kv.1,y) else kv) j=(valV kvs j).map fun x=>if j=k then y else x
 | []=>rfl
 | p :: r=>by
  have ih:=valV_map k j y r
  rw [List.map_cons]
  by_cases h:p.1=k
  ·rw [if_pos h]
   by_cases e:p.1=j
   ·rw [valV_pos (p:=(p.1,y)) e,valV_pos e,Option.map_some,if_pos (e.symm.trans h)]
   ·rw [valV_neg (p:=(p.1,y)) e,valV_neg e,ih]
  ·rw [if_neg h]
   by_cases e:p.1=j
   ·rw [valV_pos (p:=p) e,valV_pos e,Option.map_some,if_neg (fun z=>h (e.trans z))]
   ·rw [valV_neg (p:=p) e,valV_neg e,ih]
theorem valV_snoc (k j:κ) (y:V):∀ kvs:List (κ × V),valV kvs k=none→valV (kvs ++ [(k,y)]) j=if j=k then some y else valV kvs j
 | [],_=>by
  by_cases e:k=j
  ·rw [if_pos e.symm]; exact valV_pos (p:=(k,y)) e
  ·rw [if_neg (fun z=>e z.symm)]; exact valV_neg (p:=(k,y)) e
 | p :: r,hn=>by
  rw [List.cons_append]
  have hk:¬ p.1=k:=fun z=>by rw [valV_pos z] at hn; cases hn
  rw [valV_neg hk] at hn
  have ih:=valV_snoc k j y r hn
  by_cases e:p.1=j
  ·rw [valV_pos e,valV_pos e,if_neg (fun z=>hk (e.trans z))]
  ·rw [valV_neg e,valV_neg e,ih]
theorem valV_put (kvs:List (κ × V)) (k j:κ) (y:V):valV (putK kvs k y) j=if j=k then some y else valV kvs j:=by
 unfold putK
 by_cases a:(kvs.any fun kv=>decide (kv.1=k))=true
 ·rw [if_pos a,valV_map]
  rw [valV_any] at a
  by_cases e:j=k
  ·obtain ⟨x,hx⟩:=Option.isSome_iff_exists.mp a
   rw [if_pos e,e,hx,Option.map_some,if_pos rfl]
  ·rw [if_neg e]
   cases valV kvs j with
   | none=>rfl
   | some x=>rw [Option.map_some,if_neg e]
 ·rw [if_neg a]
  refine valV_snoc k j y kvs ?_
  rw [valV_any] at a
  cases q:valV kvs k with
  | none=>rfl
  | some x=>rw [q] at a; exact (a rfl).elim
theorem length_putK (kvs:List (κ × V)) (k:κ) (v:V):(putK kvs k v).length≤kvs.length+1:=by
 unfold putK
 split
 ·rw [List.length_map]; omega
 ·rw [List.length_append,List.length_cons,List.length_nil]; omega
theorem putK_new {kvs:List (κ × V)} {k:κ} (v:V) (h:valV kvs k=none):putK kvs k v=kvs ++ [(k,v)]:=by
 unfold putK
 rw [valV_any,h]
 exact if_neg (by decide)
theorem RelO.isSome_eq {o:Option V} {u:Option Value} (r:RelO o u):o.isSome=u.isSome:=by
 cases o with
 | none=>cases u with
  | none=>rfl
  | some _=>exact (show False from r).elim
 | some _=>cases u with
  | none=>exact (show False from r).elim
  | some _=>rfl
theorem KV.val {kvs:List (κ × V)} {vs:List (κ × Value)} (r:KV kvs vs) (k:κ):RelO (valV kvs k) (valueAt vs k):=by
 unfold KV at r
 induction r with
 | nil=>exact True.intro
 | @cons p q ps qs h t ih=>
  obtain ⟨h1,h2⟩:=h
  by_cases e:p.1=k
  ·have e':q.1=k:=h1.symm.trans e
   have b:valueAt (q :: qs) k=some q.2:=by simp [valueAt,List.find?_cons,e']
   rw [valV_pos e,b]; exact h2
  ·have e':¬ q.1=k:=fun z=>e (h1.trans z)
   have b:valueAt (q :: qs) k=valueAt qs k:=by simp [valueAt,List.find?_cons,e']
   rw [valV_neg e,b]; exact ih
theorem KV.any {kvs:List (κ × V)} {vs:List (κ × Value)} (r:KV kvs vs) (k:κ):(kvs.any fun kv=>decide (kv.1=k))=vs.any fun kv=>decide (kv.1=k):=by
 unfold KV at r
 induction r with
 | nil=>rfl
 | cons h t ih=>rw [List.any_cons,List.any_cons,ih,h.1]
theorem KV.repl {kvs:List (κ × V)} {vs:List (κ × Value)} (r:KV kvs vs) (k:κ) {y:V} {u:Value} (ry:RelV y u) :
  KV (kvs.map fun kv=>if kv.1=k then (kv.1,y) else kv) (vs.map fun kv=>if kv.1=k then (kv.1,u) else kv):=by
 unfold KV at r ⊢
 induction r with
 | nil=>exact .nil
 | @cons p q ps qs h t ih=>
  rw [List.map_cons,List.map_cons]
  refine .cons ?_ ih
  obtain ⟨h1,h2⟩:=h
  by_cases e:p.1=k
  ·rw [if_pos e,if_pos (h1.symm.trans e)]; exact ⟨h1,ry⟩
  ·rw [if_neg e,if_neg (fun z=>e (h1.trans z))]; exact ⟨h1,h2⟩
theorem KV.put {kvs:List (κ × V)} {vs:List (κ × Value)} (r:KV kvs vs) (k:κ) {y:V} {u:Value} (ry:RelV y u):KV (putK kvs k y) (stored vs k u):=by
 unfold putK stored
 rw [r.any k]
 by_cases e:(vs.any fun kv=>decide (kv.1=k))=true
 ·rw [if_pos e,if_pos e]; exact r.repl k ry
 ·rw [if_neg e,if_neg e]; exact Paired.snoc r ⟨rfl,ry⟩
theorem KV.length {kvs:List (κ × V)} {vs:List (κ × Value)} (r:KV kvs vs):kvs.length=vs.length:=Paired.length r
end
theorem kV_is {P:Program} {w:World} {k:Key} {u:Value} (r:RelV (kV k) u):(mixKind P w).is k u=true:=by
 cases k with
 | inl i=>obtain ⟨t,e⟩:=(show ∃ t,u=Value.int i t from r); subst e; exact mixKind_int P w i t
 | inr x=>obtain ⟨t,e⟩:=(show ∃ t,u=Value.str x t from r); subst e; exact mixKind_str P w x t
theorem items_are {P:Program} {w:World}:∀ {ks:List Key} {us:List Value},Vals (ks.map kV) us→ItemsAre (mixKind P w) ks us
 | [],_,r=>by rw [List.map_nil] at r; cases r; exact .nil
 | k :: ks,_,r=>by
  rw [List.map_cons] at r
  cases r with
  | cons h t=>exact .cons (kV_is h) (items_are t)
abbrev KT (H:Hp):List (List Key × V)→List (List Key × Addr × Value)→Prop:=Paired fun p q=>p.1=q.1∧H q.2.1=some (.tup (p.1.map kV))∧RelV p.2 q.2.2
theorem KT.val {H:Hp} {kvs:List (List Key × V)} {xs:List (List Key × Addr × Value)} (r:KT H kvs xs) (k:List Key):RelO (valV kvs k) ((atKey xs k).map (·.2)):=by
 induction r with
 | nil=>exact True.intro
 | @cons p q ps qs h t ih=>
  obtain ⟨h1,_,h2⟩:=h
  by_cases e:p.1=k
  ·have e':q.1=k:=h1.symm.trans e
   have b:atKey (q :: qs) k=some q.2:=by simp [atKey,List.find?_cons,e']
   rw [valV_pos e,b]; exact h2
  ·have e':¬ q.1=k:=fun z=>e (h1.trans z)
   have b:atKey (q :: qs) k=atKey qs k:=by simp [atKey,List.find?_cons,e']
   rw [valV_neg e,b]; exact ih
theorem KT.repl {H:Hp} {kvs:List (List Key × V)} {xs:List (List Key × Addr × Value)} (r:KT H kvs xs) (k:List Key) {y:V} {u:Value} (ry:RelV y u) :
  KT H (kvs.map fun kv=>if kv.1=k then (kv.1,y) else kv) (xs.map (putAt k u)):=by
 induction r with
 | nil=>exact .nil
 | @cons p q ps qs h t ih=>
  rw [List.map_cons,List.map_cons]
  refine .cons ?_ ih
  obtain ⟨h1,h2,h3⟩:=h
  unfold putAt
  by_cases e:p.1=k
  ·rw [if_pos e,if_pos (h1.symm.trans e)]; exact ⟨h1,h2,ry⟩
  ·rw [if_neg e,if_neg (fun z=>e (h1.trans z))]; exact ⟨h1,h2,h3⟩
theorem KT.put {H:Hp} {kvs:List (List Key × V)} {xs:List (List Key × Addr × Value)} (r:KT H kvs xs) (k:List Key) {b:Addr} {y:V} {u:Value} (hb:H b=some (.tup (k.map kV))) (ry:RelV y u) :
  KT H (putK kvs k y) (storedH xs k b u):=by
 have e:(kvs.any fun kv=>decide (kv.1=k))=(atKey xs k).isSome:=by
  rw [valV_any,(r.val k).isSome_eq,Option.isSome_map]
 unfold putK storedH
 rw [e]
 by_cases q:(atKey xs k).isSome=true
 ·rw [if_pos q,if_pos q]; exact r.repl k ry
 ·rw [if_neg q,if_neg q]; exact Paired.snoc r ⟨rfl,hb,ry⟩
theorem KT.keeps {H H':Hp} {kvs:List (List Key × V)} {xs:List (List Key × Addr × Value)} (r:KT H kvs xs) (ht:∀ b ys,H b=some (.tup ys)→H' b=some (.tup ys)):KT H' kvs xs:=
 Paired.mapP r fun _ _ z=>⟨z.1,ht _ _ z.2.1,z.2.2⟩
section
variable {P:Program} {w:World} {H:Hp} {h:Heap} {a:Addr}
theorem rd_of {u:HO} (ok:HOk P w H h) (e:Rd H a u):ObjOk P w H h a u:=e.ok ok
theorem dk_rd {kvs:List (Key × V)} (ok:HOk P w H h) (e:Rd H a (.dK kvs)):kvs.length≤sizeLine∧(a==sysModules)=false∧∃ vs,KV kvs vs∧h.DictOf (mixKind P w) a vs:=
 show ObjOk P w H h a (.dK kvs) from rd_of ok e
theorem dk_of {kvs:List (Key × V)} (ok:HOk P w H h) (e:H a=some (.dK kvs)):kvs.length≤sizeLine∧(a==sysModules)=false∧∃ vs,KV kvs vs∧h.DictOf (mixKind P w) a vs:=dk_rd ok (.inl e)
theorem key_of {ks:List Key} (ok:HOk P w H h) (e:H a=some (.tup (ks.map kV))):(tupleKind (mixKind P w)).is h ks a:=by
 obtain ⟨_,its,r,o,h1,h2,n,h3⟩:=(show ObjOk P w H h a (.tup (ks.map kV)) from ok a _ e)
 exact ⟨o,its.toArray,n,h1,h2,h3,by simpa using items_are r⟩
theorem dt_rd {kvs:List (List Key × V)} (ok:HOk P w H h) (e:Rd H a (.dT kvs)):kvs.length≤sizeLine∧(a==sysModules)=false∧
  ∃ xs,KT H kvs xs∧h.DictOfH (tupleKind (mixKind P w)) a xs:=by
 obtain ⟨z,y,xs,r,o,es,ep,h1,h2,h3,h4,h5⟩:=(show ObjOk P w H h a (.dT kvs) from rd_of ok e)
 refine ⟨z,y,xs,r,o,es,ep,h1,h2,h3,h4,fun x hx=>?_,h5⟩
 have all:∀ {l:List (List Key × V)} {m:List (List Key × Addr × Value)},KT H l m→∀ x∈m,(tupleKind (mixKind P w)).is h x.1 x.2.1:=by
  intro l m q
  induction q with
  | nil=>intro x hx; exact nomatch hx
  | @cons p q ps qs hq t ih=>
   intro x hx
   rcases List.mem_cons.mp hx with e | hx
   ·subst e
    exact key_of ok (by rw [← hq.1]; exact hq.2.1)
   ·exact ih x hx
 exact all r x hx
theorem dt_of {kvs:List (List Key × V)} (ok:HOk P w H h) (e:H a=some (.dT kvs)):kvs.length≤sizeLine∧(a==sysModules)=false∧
  ∃ xs,KT H kvs xs∧h.DictOfH (tupleKind (mixKind P w)) a xs:=dt_rd ok (.inl e)
end
def DGet (H:Hp) (a:Addr) (y:V) (r:Option V):Prop:=
 (∃ kvs k,Rd H a (.dK kvs)∧y=kV k∧r=valV kvs k)∨∃ kvs k b,Rd H a (.dT kvs)∧y=.ref b∧H b=some (.tup (k.map kV))∧r=valV kvs k
def DPut (H:Hp) (a:Addr) (y v:V) (H':Hp):Prop:=
 (∃ kvs k,H a=some (.dK kvs)∧y=kV k∧kvs.length < sizeLine∧H'=upd H a (.dK (putK kvs k v)))∨
 ∃ kvs k b,H a=some (.dT kvs)∧y=.ref b∧H b=some (.tup (k.map kV))∧kvs.length < sizeLine∧H'=upd H a (.dT (putK kvs k v))
theorem DGet.k {H:Hp} {a:Addr} {kvs:List (Key × V)} {k:Key} (e:H a=some (.dK kvs)):DGet H a (kV k) (valV kvs k):=.inl ⟨kvs,k,.inl e,rfl,rfl⟩
theorem DGet.t {H:Hp} {a b:Addr} {kvs:List (List Key × V)} {k:List Key} (e:H a=some (.dT kvs)) (eb:H b=some (.tup (k.map kV))):DGet H a (.ref b) (valV kvs k):=.inr ⟨kvs,k,b,.inl e,rfl,eb,rfl⟩
theorem DPut.k {H:Hp} {a:Addr} {kvs:List (Key × V)} {k:Key} {v:V} (e:H a=some (.dK kvs)) (hl:kvs.length < sizeLine):DPut H a (kV k) v (upd H a (.dK (putK kvs k v))):=.inl ⟨kvs,k,e,rfl,hl,rfl⟩
theorem DPut.t {H:Hp} {a b:Addr} {kvs:List (List Key × V)} {k:List Key} {v:V} (e:H a=some (.dT kvs)) (eb:H b=some (.tup (k.map kV))) (hl:kvs.length < sizeLine) :
  DPut H a (.ref b) v (upd H a (.dT (putK kvs k v))):=.inr ⟨kvs,k,b,e,rfl,eb,hl,rfl⟩
section
variable {X:Cx} {pins:List (Addr × Obj)} {σ:St} {H:Hp} {s:Shared} {a:Addr} {y v:V} {u r:Value} {o:Option V} {A:Around} {E:Value→Shared→Prop}
theorem Inv.big (I:Inv X pins σ H s):sysModules < s.heap.objs.size:=by
 have h:mainGlobals < s.heap.objs.size:=(I.mod.glob.keeps I.bk).lt
 exact Nat.lt_trans (by decide) h
theorem d_getItem {Q:Value→Shared→Prop} (hu:A.units+1 < cLine) (I:Inv X pins σ H s) (g:DGet H a y (some v)) (ry:RelV y u) (h:∀ w' s',Inv X pins σ H s'→RelV v w'→Q w' s') :
  wpAny (model X.prog X.w) A (getItem (.ref a) u) Q E s:=by
 rcases g with ⟨kvs,k,e,ey,l⟩ | ⟨kvs,k,b,e,ey,eb,l⟩
 ·subst ey
  obtain ⟨z,hd,vs,rel,dd⟩:=dk_rd I.hok e
  obtain ⟨w',hw,rw'⟩:=RelO.some_of (v:=v) (o:=valueAt vs k) (by rw [l]; exact rel.val k)
  exact wpAny_getItem_of (kV_is ry) dd.mapOf hw (h w' _ (I.tok _) rw')
 ·subst ey
  cases (show u=Value.ref b from ry)
  obtain ⟨z,hd,xs,rel,dd⟩:=dt_rd I.hok e
  obtain ⟨w',hw,rw'⟩:=RelO.some_of (v:=v) (o:=(atKey xs k).map (·.2)) (by rw [l]; exact rel.val k)
  obtain ⟨p,hp,hp2⟩:=Option.map_eq_some_iff.mp hw
  refine wpAny_getItem_heap (tupleKind_room_in1 hu) (key_of I.hok eb) dd hp ?_
  rw [hp2]
  exact h w' _ (I.tok _) rw'
theorem d_notIn {Q:Value→Shared→Prop} (hu:A.units+1 < cLine) (I:Inv X pins σ H s) (g:DGet H a y o) (ry:RelV y u) (h:∀ s',Inv X pins σ H s'→Q (.bool (!o.isSome)) s') :
  wpAny (model X.prog X.w) A (compareOp .NotIn u (.ref a)) Q E s:=by
 rcases g with ⟨kvs,k,e,ey,l⟩ | ⟨kvs,k,b,e,ey,eb,l⟩
 ·subst ey
  obtain ⟨z,hd,vs,rel,dd⟩:=dk_rd I.hok e
  refine wpAny_notIn_of (kV_is ry) hd dd.mapOf ?_
  rw [← (rel.val k).isSome_eq,← l]
  exact h _ (I.tok _)
 ·subst ey
  cases (show u=Value.ref b from ry)
  obtain ⟨z,hd,xs,rel,dd⟩:=dt_rd I.hok e
  refine wpAny_notIn_heap (tupleKind_room_in1 hu) (key_of I.hok eb) hd dd ?_
  have q:=(rel.val k).isSome_eq
  rw [Option.isSome_map] at q
  rw [← q,← l]
  exact h _ (I.tok _)
theorem d_write {h':Heap} {t':Nat} {ob:HO} (I:Inv X pins σ H s) (mu:Mut (H a)) (hs:Heap.SameBut a s.heap h') (he:∃ q,h'.get? a=some q) (new:ObjOk X.prog X.w (upd H a ob) h' a ob) :
  Inv X pins σ (upd H a ob) { s with heap:=h',toks:=t' }:=
 I.write (x:=a) (e:=a) mu (.inl rfl) (fun b q hb z=>(hs.2 b hb).trans z) he new
theorem dk_new {P:Program} {w:World} {H':Hp} {h':Heap} {kvs:List (Key × V)} {vs:List (Key × Value)} (z:kvs.length≤sizeLine) (hd:(a==sysModules)=false) (rel:KV kvs vs) (dd:h'.DictOf (mixKind P w) a vs) :
  ObjOk P w H' h' a (.dK kvs):=⟨z,hd,vs,rel,dd⟩
theorem d_setItem {H':Hp} {Q:Unit→Shared→Prop} (hu:A.units+1 < cLine) (I:Inv X pins σ H s) (g:DPut H a y v H') (ry:RelV y u) (rv:RelV v r) (h:∀ s',Inv X pins σ H' s'→Q () s') :
  wpAny (model X.prog X.w) A (setItem (.ref a) u r) Q E s:=by
 rcases g with ⟨kvs,k,e,ey,l,eH⟩ | ⟨kvs,k,b,e,ey,eb,l,eH⟩
 ·subst ey eH
  obtain ⟨z,hd,vs,rel,dd⟩:=dk_of I.hok e
  have hz:vs.length≤sizeLine:=by rw [← rel.length]; exact z
  have hl:(putK kvs k v).length≤sizeLine:=by have:=length_putK kvs k v; omega
  refine wpAny_setItem_pairs (hsz:=hz) (kV_is ry) dd fun h' dd' hs=>h _ ?_
  have he:∃ q,h'.get? a=some q:=let ⟨q,_,_,hq,_⟩:=dd'; ⟨q,hq⟩
  exact d_write I (by rw [e]; exact True.intro) hs he (dk_new hl hd (rel.put k rv) dd')
 ·subst ey eH
  cases (show u=Value.ref b from ry)
  obtain ⟨z,hd,xs,rel,dd⟩:=dt_of I.hok e
  have hz:xs.length≤sizeLine:=by rw [← Paired.length rel]; exact z
  have hl:(putK kvs k v).length≤sizeLine:=by have:=length_putK kvs k v; omega
  refine wpAny_setItem_heap (hsz:=hz) (tupleKind_room_in1 hu) (key_of I.hok eb) dd fun h' dd' hs=>h _ ?_
  obtain ⟨q,es,ep,hq,h2,h3,h4,_,h5⟩:=dd'
  refine d_write I (by rw [e]; exact True.intro) hs ⟨q,hq⟩ ⟨hl,hd,_,(rel.put k eb rv).keeps fun c ys ec=>?_,q,es,ep,hq,h2,h3,h4,h5⟩
  rw [upd_ne (ne_of ec e (fun z=>nomatch z))]
  exact ec
end
section
variable {X:Cx} {pins:List (Addr × Obj)} {σ:St} {H:Hp} {s:Shared} {a:Addr} {kvs:List (Key × V)} {k:Key} {u:Value} {A:Around} {E:Value→Shared→Prop}
theorem d_len {Q:Value→Shared→Prop} (I:Inv X pins σ H s) (e:Rd H a (.dK kvs)) (h:∀ t s',Inv X pins σ H s'→Q (.int kvs.length t) s'):wpAny (model X.prog X.w) A (call (.builtin "len") [.ref a]) Q E s:=by
 obtain ⟨z,hd,vs,rel,dd⟩:=dk_rd I.hok e
 refine call_len_dict hd dd (by rw [← rel.length]; rw [sizeLine_eq] at z; omega) ?_
 rw [← rel.length]
 exact h _ _ (I.tok _)
end
def NoSl (i:Expr):Prop:=∀ ov iv,subscripted i false ov iv=operate [ov,iv] (getItem ov iv)
theorem subD_of {prog:Program} {w:World} {A:Around} {E:Value→Shared→Prop} {s:Shared} {env:Env} {value slice:Expr} {pos:Pos} {T id:String} {Q:Value→Shared→Prop}
  (hl:typeLookup (.type T) "__getitem__" = pure (some (.builtin id))) (hs:NoSl slice)
  (h:wpAny (model prog w) A (eval value env) (fun o s₁=>wpAny (model prog w) A (eval slice env) (fun i s₂=>s₂.TypeIs o T∧wpAny (model prog w) A (getItem o i) Q E s₂) E s₁) E s) :
  wpAny (model prog w) A (eval (.Subscript value slice pos) env) Q E s:=by
 refine Subscript_ (wpAny_mono h (fun o s₁ h₁=>wpAny_mono h₁ (fun i s₂ h₂=>?_) fun _ _ x=>x) fun _ _ x=>x)
 obtain ⟨hT,h₂⟩:=h₂
 unfold subscriptTail
 refine wpAny_bind ?_
 rw [getitemInPython_of_ne hT.not_modules]
 refine wpAny_bind (wpAny_specialOf hT hl ?_)
 have fin:wpAny (model prog w) A (subscripted slice false o i) (fun r s₃=>wpAny (model prog w) A (letTemporaryGo value o r >>= fun _=>pure r) Q E s₃) E s₂:=by
  rw [hs o i]
  exact wpAny_operating (wpAny_mono h₂ (fun r s₃ h₃=>wpAny_bind (wpAny_letTemporaryGo (wpAny_pure h₃))) fun _ _ x=>x)
 first
  | exact wpAny_pure (wpAny_bind fin)
  | exact wpAny_bind (wpAny_pure (wpAny_bind fin))
  | exact wpAny_bind fin
theorem dict_typeIs {X:Cx} {pins:List (Addr × Obj)} {σ:St} {H:Hp} {s:Shared} {a:Addr} {y:V} {o:Option V} (I:Inv X pins σ H s) (g:DGet H a y o):s.TypeIs (.ref a) "dict":=by
 rcases g with ⟨kvs,k,e,_,_⟩ | ⟨kvs,k,b,e,_,_,_⟩
 ·obtain ⟨_,_,vs,_,dd⟩:=dk_rd I.hok e
  exact dd.typeIs
 ·obtain ⟨_,_,xs,_,dd⟩:=dt_rd I.hok e
  exact dd.typeIs
def tDGet (td ty:TE):TE:=fun σ H Q=>td σ H fun x H1=>ty σ H1 fun y H2=>∃ a v,x=.ref a∧DGet H2 a y (some v)∧Q v H2
def tDNotIn (ty td:TE):TE:=fun σ H Q=>ty σ H fun y H1=>td σ H1 fun x H2=>∃ a o,x=.ref a∧DGet H2 a y o∧Q (.bl (!o.isSome)) H2
def sDPut (td ty tv:TE):TS:=fun D σ H=>tv σ H fun v H1=>td σ H1 fun x H2=>ty σ H2 fun y H3=>∃ a H4,x=.ref a∧DPut H3 a y v H4∧D.nx σ H4
section
variable {X:Cx} {o i e value:Expr} {pos pos' tpos:Pos} {td ty tv:TE}
theorem pe_dget (hu:X.A.units+1 < cLine) (ho:PE X o td) (hi:PE X i ty) (hs:NoSl i):PE X (.Subscript o i pos) (tDGet td ty):=by
 intro pins s σ H Q I h
 refine subD_of PySem.F.slot_dict_getitem.lookup hs (thn (ho pins s σ H _ I h) fun u s1 ⟨x,H1,I1,rx,q1⟩=>thn (hi pins s1 σ H1 _ I1 q1) fun iv s2 ⟨y,H2,I2,ry,a,v,ex,g,q2⟩=>?_)
 subst ex
 obtain rfl:u=Value.ref a:=rx
 exact ⟨dict_typeIs I2 g,d_getItem hu I2 g ry fun w' s3 I3 rw'=>⟨v,H2,I3,rw',q2⟩⟩
theorem pc_dnotin (hu:X.A.units+1 < cLine) (hi:PE X i ty) (ho:PE X o td):PC X .NotIn i o (tDNotIn ty td):=by
 intro pins s σ H Q I h
 refine thn (hi pins s σ H _ I h) fun iv s1 ⟨y,H1,I1,ry,q1⟩=>thn (ho pins s1 σ H1 _ I1 q1) fun u s2 ⟨x,H2,I2,rx,a,ov,ex,g,q2⟩=>?_
 subst ex
 obtain rfl:u=Value.ref a:=rx
 exact d_notIn hu I2 g ry fun s3 I3=>⟨.bl (!ov.isSome),H2,I3,rfl,q2⟩
theorem ps_dput (hu:X.A.units+1 < cLine) (ho:PE X o td) (hi:PE X i ty) (hv:PE X value tv) (hs:swapsWith value (some (.Subscript o i pos')) pos.line X.env=pure false) :
  PS X (.Assign [.Subscript o i pos'] value pos) (sDPut td ty tv):=by
 intro pins s σ H D I h
 refine wpAny_Assign_Subscript (thn (hv pins s σ H _ I h) fun r s1 ⟨v,H1,I1,rv,q1⟩=>thn (ho pins s1 σ H1 _ I1 q1) fun u s2 ⟨x,H2,I2,rx,q2⟩=>thn (hi pins s2 σ H2 _ I2 q2) fun iv s3 ⟨y,H3,I3,ry,a,H4,ex,g,q3⟩=>?_) hs
 subst ex
 obtain rfl:u=Value.ref a:=rx
 exact d_setItem hu I3 g ry rv fun s4 I4=>⟨σ,H4,I4,q3⟩
end
theorem dk_empty {P:Program} {w:World} {H:Hp} (h:Heap) (hb:sysModules < h.objs.size):ObjOk P w H (h.push { cls:=.type "dict",data:=.dict #[] }) h.objs.size (.dK []):=
 ⟨Nat.zero_le _,beq_eq_false_iff_ne.mpr (Ne.symm (Nat.ne_of_lt hb)),[],.nil,Heap.DictOf.new h⟩
theorem dt_empty {P:Program} {w:World} {H:Hp} (h:Heap) (hb:sysModules < h.objs.size):ObjOk P w H (h.push { cls:=.type "dict",data:=.dict #[] }) h.objs.size (.dT []):=
 ⟨Nat.zero_le _,beq_eq_false_iff_ne.mpr (Ne.symm (Nat.ne_of_lt hb)),[],.nil,_,#[],0,Heap.get?_push_size _ rfl,⟨rfl,rfl,rfl⟩,rfl,rfl,List.nodup_nil⟩
def tDNewK:TE:=fun _ H Q=>∀ p,H p=none→Q (.ref p) (upd H p (.dK []))
def tDNewT:TE:=fun _ H Q=>∀ p,H p=none→Q (.ref p) (upd H p (.dT []))
section
variable {X:Cx} {pos:Pos}
theorem pe_dnewK:PE X (.Dict [] [] pos) tDNewK:=fun pins s σ H Q I h=>
 wpAny_Dict_empty ⟨.ref s.heap.objs.size,_,I.laid (a:=s.heap.objs.size) (o:=.dK []) (t':=s.toks) (fun _ _ q=>Heap.get?_push_of_some _ q) (Nat.le_refl _) (dk_empty s.heap I.big),rfl,h _ (I.hok.fresh (Nat.le_refl _))⟩
theorem pe_dnewT:PE X (.Dict [] [] pos) tDNewT:=fun pins s σ H Q I h=>
 wpAny_Dict_empty ⟨.ref s.heap.objs.size,_,I.laid (a:=s.heap.objs.size) (o:=.dT []) (t':=s.toks) (fun _ _ q=>Heap.get?_push_of_some _ q) (Nat.le_refl _) (dt_empty s.heap I.big),rfl,h _ (I.hok.fresh (Nat.le_refl _))⟩
end
def tPairs:List (TE × TE)→St→Hp→(List (V × V)→Hp→Prop)→Prop
 | [],_,H,Q=>Q [] H
 | (tk,tv) :: r,σ,H,Q=>tk σ H fun x H1=>tv σ H1 fun y H2=>tPairs r σ H2 fun ps H3=>Q ((x,y) :: ps) H3
abbrev VV:List (V × V)→List (Value × Value)→Prop:=Paired fun p q=>RelV p.1 q.1∧RelV p.2 q.2
def PPs (X:Cx) (pos:Pos) (keys:List (Option Expr)) (values:List Expr) (trs:List (TE × TE)):Prop:=
 ∀ (pins:List (Addr × Obj)) (s:Shared) (σ:St) (H:Hp) (Q:List (V × V)→Hp→Prop),Inv X pins σ H s→tPairs trs σ H Q→
  wpAny (model X.prog X.w) X.A (evalPairs (pairTrees keys values X.env pos)) (fun vs s'=>∃ ps H',Inv X pins σ H' s'∧VV ps vs∧Q ps H') X.xe s
theorem pps_nil {X:Cx} {pos:Pos}:PPs X pos [] [] []:=fun pins s σ H Q I h=>pairTrees_nil_walk ⟨[],H,I,.nil,h⟩
theorem pps_cons {X:Cx} {pos:Pos} {k v:Expr} {ks:List (Option Expr)} {vs:List Expr} {tk tv:TE} {trs:List (TE × TE)} (hk:PE X k tk) (hv:PE X v tv) (hr:PPs X pos ks vs trs) :
  PPs X pos (some k :: ks) (v :: vs) ((tk,tv) :: trs):=fun pins s σ H Q I h=>
 pairTrees_cons_walk (thn (hk pins s σ H _ I h) fun u s1 ⟨x,H1,I1,rx,q1⟩=>thn (hv pins s1 σ H1 _ I1 q1) fun w2 s2 ⟨y,H2,I2,ry,q2⟩=>
  thn (hr pins s2 σ H2 _ I2 q2) fun ws s3 ⟨ps,H3,I3,rel,q3⟩=>⟨(x,y) :: ps,H3,I3,.cons ⟨rx,ry⟩ rel,q3⟩)
def mergeK (kvs more:List (Key × V)):List (Key × V):=more.foldl (fun acc kv=>putK acc kv.1 kv.2) kvs
theorem KV.merge:∀ {more:List (Key × V)} {rs:List (Key × Value)} {kvs:List (Key × V)} {vs:List (Key × Value)},KV more rs→KV kvs vs→KV (mergeK kvs more) (merged vs rs):=by
 intro more rs kvs vs r
 unfold KV at r
 induction r generalizing kvs vs with
 | nil=>intro q; exact q
 | @cons p q ps qs h t ih=>
  intro r0
  have e:KV (putK kvs p.1 p.2) (stored vs q.1 q.2):=by
   have:=r0.put p.1 h.2
   rw [← h.1]; exact this
  exact ih e
theorem length_mergeK:∀ (more kvs:List (Key × V)),(mergeK kvs more).length≤kvs.length+more.length
 | [],kvs=>by show kvs.length≤kvs.length+0; omega
 | p :: r,kvs=>by
  have h1:=length_mergeK r (putK kvs p.1 p.2)
  have h2:=length_putK kvs p.1 p.2
  show (mergeK (putK kvs p.1 p.2) r).length≤_
  rw [List.length_cons]; omega
theorem carries_of {P:Program} {w:World}:∀ {kvs:List (Key × V)} {ws:List (Value × Value)},VV (kvs.map fun kv=>(kV kv.1,kv.2)) ws→∃ rs,Carries (mixKind P w) ws rs∧KV kvs rs
 | [],_,r=>by rw [List.map_nil] at r; cases r; exact ⟨[],True.intro,.nil⟩
 | p :: kvs,_,r=>by
  rw [List.map_cons] at r
  cases r with
  | @cons a b as bs h t=>
   obtain ⟨rs,c,q⟩:=carries_of (P:=P) (w:=w) t
   obtain ⟨b1,b2⟩:=b
   exact ⟨(p.1,b2) :: rs,⟨kV_is h.1,rfl,c⟩,.cons ⟨rfl,h.2⟩ q⟩
def tDisp (trs:List (TE × TE)):TE:=fun σ H Q=>∀ p,H p=none→tPairs trs σ (upd H p (.dK [])) fun ps H2=>H2 p=some (.dK [])∧∃ kvs:List (Key × V),ps=kvs.map (fun kv=>(kV kv.1,kv.2))∧kvs.length≤15∧Q (.ref p) (upd H2 p (.dK (mergeK [] kvs)))
theorem pe_disp {X:Cx} {pos:Pos} {keys:List (Option Expr)} {values:List Expr} {trs:List (TE × TE)} (h:PPs X pos keys values trs) (hall:keys.all (·.isSome)=true) (hl:keys.length=values.length) (h0:keys≠[])
  (h15:keys.length≤15):PE X (.Dict keys values pos) (tDisp trs):=by
 intro pins s σ H Q I q
 have hn:=I.hok.fresh (Nat.le_refl s.heap.objs.size)
 have I1:=I.laid (a:=s.heap.objs.size) (o:=.dK []) (h':=s.heap.push { cls:=.type "dict",data:=.dict #[] }) (t':=s.toks) (fun _ _ q=>Heap.get?_push_of_some _ q) (Nat.le_refl _) (dk_empty s.heap I.big)
 refine wpAny_Dict_walk (knd:=mixKind X.prog X.w) hall hl h0 h15 (thn (h pins _ σ _ _ I1 (q _ hn)) fun ws s2 ⟨ps,H2,I2,rel,e,kvs,ep,lk,q2⟩=>?_)
 subst ep
 obtain ⟨rs,c,rk⟩:=carries_of (P:=X.prog) (w:=X.w) rel
 obtain ⟨z,hd,vs0,r0,dd⟩:=dk_of I2.hok e
 cases r0
 refine ⟨rs,c,dd,fun h' dd' hs=>⟨.ref s.heap.objs.size,_,?_,rfl,q2⟩⟩
 have hz:(mergeK [] kvs).length≤sizeLine:=by
  have h1:=length_mergeK kvs []
  rw [List.length_nil] at h1
  rw [sizeLine_eq]; omega
 have he:∃ q,h'.get? s.heap.objs.size=some q:=let ⟨q,_,_,hq,_⟩:=dd'; ⟨q,hq⟩
 exact d_write I2 (by rw [e]; exact True.intro) hs he (dk_new hz hd (rk.merge .nil) dd')
structure M1 (X:Cx) (o:Expr) (m:Str) (apos:Pos) (e:Expr) (cpos:Pos):Prop where
 base:attributeBase o m X.env (eval o X.env)=eval o X.env
 few:((backTo cpos (starEach [e] X.env)).all (fun x=>!x.1) && (backToKw cpos (keywordEach [] X.env)).all (fun x=>x.1.isSome)
  && decide (([e]:List Expr).length+([]:List Keyword).length+(if ([]:List Keyword).isEmpty then 0 else 1) < 30))=true
 line:(apos.endLine==cpos.line)=true
 trees:backTo cpos (starEach [e] X.env)=[(false,eval e X.env)]
structure M2 (X:Cx) (o:Expr) (m:Str) (apos:Pos) (e f:Expr) (cpos:Pos):Prop where
 base:attributeBase o m X.env (eval o X.env)=eval o X.env
 few:((backTo cpos (starEach [e,f] X.env)).all (fun x=>!x.1) && (backToKw cpos (keywordEach [] X.env)).all (fun x=>x.1.isSome)
  && decide (([e,f]:List Expr).length+([]:List Keyword).length+(if ([]:List Keyword).isEmpty then 0 else 1) < 30))=true
 line:(apos.endLine==cpos.line)=true
 trees:backTo cpos (starEach [e,f] X.env)=[(false,eval e X.env),(false,eval f X.env)]
def IsD (H:Hp) (a:Addr):Prop:=(∃ kvs,Rd H a (.dK kvs))∨∃ kvs,Rd H a (.dT kvs)
theorem isD_at {X:Cx} {pins:List (Addr × Obj)} {σ:St} {H:Hp} {s:Shared} {a:Addr} (I:Inv X pins σ H s) (d:IsD H a) :
  s.TypeIs (.ref a) "dict"∧(∀ b,Value.ref a=.ref b→∃ ob,s.heap.get? b=some ob∧ob.dict=none)∧(a==sysModules)=false:=by
 rcases d with ⟨kvs,e⟩ | ⟨kvs,e⟩
 ·obtain ⟨_,hd,vs,_,dd⟩:=dk_rd I.hok e
  refine ⟨dd.typeIs,fun b q=>?_,hd⟩
  cases q
  obtain ⟨ob,_,_,h1,h2,_⟩:=dd
  exact ⟨ob,h1,h2.2.1⟩
 ·obtain ⟨_,hd,xs,_,dd⟩:=dt_rd I.hok e
  refine ⟨dd.typeIs,fun b q=>?_,hd⟩
  cases q
  obtain ⟨ob,_,_,h1,h2,_⟩:=dd
  exact ⟨ob,h1,h2.2.1⟩
section
variable {X:Cx} {pins:List (Addr × Obj)} {σ:St} {H:Hp} {s:Shared} {a:Addr} {y d:V} {u r:Value} {o:Option V} {A:Around} {E:Value→Shared→Prop}
end
section
variable {X:Cx} {o e f:Expr} {apos cpos:Pos} {td ty tx:TE}
end
end L2
namespace L2
open PySem PySem.Spec PyProof.Rows
def clOf (env:Env):List (Str × NameKind)→List (Str × Addr)→List (Str × Addr)
 | [],acc=>acc
 | (n,.free) :: r,acc=>clOf env r ((n,(env.cells.lookup n).getD 0) :: acc)
 | _ :: r,acc=>clOf env r acc
def ClGood (env:Env) (acc:List (Str × Addr)):Prop:=∀ y c,acc.lookup y=some c→c=(env.cells.lookup y).getD 0
theorem clOf_skip {env:Env} {n:Str} {k:NameKind} {r:List (Str × NameKind)} {acc:List (Str × Addr)} (h:k≠.free):clOf env ((n,k) :: r) acc=clOf env r acc:=by
 cases k <;> first | rfl | exact absurd rfl h
theorem clOf_good {env:Env}:∀ (names:List (Str × NameKind)) (acc:List (Str × Addr)),ClGood env acc→ClGood env (clOf env names acc)
 | [],acc,h=>h
 | (n,k) :: r,acc,h=>by
  by_cases hk:k=.free
  ·subst hk
   refine clOf_good r _ fun y c e=>?_
   rw [List.lookup_cons] at e
   by_cases hy:y=n
   ·subst hy
    simp only [beq_self_eq_true] at e
    exact (Option.some.inj e).symm
   ·have hb:(y==n)=false:=by simpa using hy
    rw [hb] at e
    exact h y c e
  ·rw [clOf_skip hk]
   exact clOf_good r acc h
theorem clOf_has {env:Env} {x:Str}:∀ (names:List (Str × NameKind)) (acc:List (Str × Addr)),((∃ c,acc.lookup x=some c)∨(x,NameKind.free)∈names)→∃ c,(clOf env names acc).lookup x=some c
 | [],acc,h=>by
  rcases h with h | h
  ·exact h
  ·cases h
 | (n,k) :: r,acc,h=>by
  by_cases hk:k=.free
  ·subst hk
   refine clOf_has r _ ?_
   rw [List.lookup_cons]
   by_cases hy:x=n
   ·subst hy
    exact .inl ⟨(env.cells.lookup x).getD 0,by simp only [beq_self_eq_true]⟩
   ·have hb:(x==n)=false:=by simpa using hy
    rw [hb]
    rcases h with h | h
    ·exact .inl h
    ·rcases List.mem_cons.mp h with h | h
     ·exact absurd (congrArg Prod.fst h) hy
     ·exact .inr h
  ·rw [clOf_skip hk]
   refine clOf_has r acc ?_
   rcases h with h | h
   ·exact .inl h
   ·rcases List.mem_cons.mp h with h | h
    ·exact absurd (congrArg Prod.snd h).symm hk
    ·exact .inr h
theorem clOf_mem {env:Env} {x:Str} {c:Addr}:∀ (names:List (Str × NameKind)) (acc:List (Str × Addr)),(clOf env names acc).lookup x=some c→acc.lookup x=some c∨(x,NameKind.free)∈names
 | [],acc,h=>.inl h
 | (n,k) :: r,acc,h=>by
  by_cases hk:k=.free
  ·subst hk
   rcases clOf_mem r _ h with h1 | h1
   ·rw [List.lookup_cons] at h1
    by_cases hy:x=n
    ·subst hy
     exact .inr List.mem_cons_self
    ·have hb:(x==n)=false:=by simpa using hy
     rw [hb] at h1
     exact .inl h1
   ·exact .inr (List.mem_cons_of_mem _ h1)
  ·rw [clOf_skip hk] at h
   rcases clOf_mem r acc h with h1 | h1
   ·exact .inl h1
   ·exact .inr (List.mem_cons_of_mem _ h1)
theorem forIn_cl {env:Env} {f:Str × NameKind→List (Str × Addr)→Sem (ForInStep (List (Str × Addr)))} (h1:∀ n k r,k≠NameKind.free→f (n,k) r=pure (.yield r))
  (h2:∀ n r c,env.cells.lookup n=some c→f (n,.free) r=pure (.yield ((n,c) :: r))) :
  ∀ (names:List (Str × NameKind)) (acc:List (Str × Addr)),(∀ y∈names,y.2=NameKind.free→∃ c,env.cells.lookup y.1=some c)→forIn names acc f=pure (clOf env names acc)
 | [],acc,_=>rfl
 | (n,k) :: r,acc,hc=>by
  have hr:∀ y∈r,y.2=NameKind.free→∃ c,env.cells.lookup y.1=some c:=fun y hy=>hc y (List.mem_cons_of_mem _ hy)
  rw [List.forIn_cons]
  by_cases hk:k=.free
  ·subst hk
   obtain ⟨c,e⟩:=hc (n,.free) List.mem_cons_self rfl
   rw [h2 n acc c e,pure_bind]
   show forIn r ((n,c) :: acc) f=_
   rw [forIn_cl h1 h2 r _ hr]
   show _=pure (clOf env r ((n,(env.cells.lookup n).getD 0) :: acc))
   rw [e]
   rfl
  ·rw [h1 n k acc hk,pure_bind,clOf_skip hk]
   exact forIn_cl h1 h2 r acc hr
theorem closure_is {env:Env} {scope:Scope} (hc:∀ y∈scope.names,y.2=NameKind.free→∃ c,env.cells.lookup y.1=some c):closureFor scope env=pure (clOf env scope.names []):=by
 unfold closureFor
 dsimp only
 rw [forIn_cl (env:=env) ?_ ?_ scope.names [] hc]
 ·rfl
 ·intro n k r hk
  have hb:(k==NameKind.free)=false:=by simpa using hk
  simp only [hb,Bool.false_eq_true,if_false]
 ·intro n r c e
  simp only [cellOf,e,beq_self_eq_true,if_true,pure_bind]
structure CompOk (sc:Scope) (Nm own:List Str) (fr:List Nat) (scope:Scope):Prop where
 kind:scope.kind=.function
 nocell:∀ y∈scope.names,y.2≠NameKind.cell
 free:∀ y∈scope.names,y.2=NameKind.free→sc.names.lookup y.1=some .cell∨sc.names.lookup y.1=some .free
 locs:∀ y∈scope.names,y.2=NameKind.local→scope.names.lookup y.1=some .local
 frs:∀ j∈fr,j < Nm.length∧scope.names.lookup (Nm.getD j "")=some .free
def inNm (own Nm:List Str) (fr:List Nat):List Str:=own ++ fr.map fun j=>Nm.getD j ""
def inSt (n:Nat) (fr:List Nat) (σ:St):St:=List.replicate n none ++ fr.map fun j=>σ.getD j none
structure CD where
 cl:List (Str × Addr)
 C:Addr
 s:Shared
 H:Hp
 fp:List Addr
def compCx (X:Cx) (Nm:List Str) (scope:Scope) (d:CD):Cx:=
 {prog:=X.prog,w:=X.w,K:=X.K,mg:=X.mg,base:=X.base,A:=X.A,N:=Nm,s₀:=d.s,H₀:=d.H,env:=compEnvC scope d.cl d.C X.env,outer:=X.stack,stack:=X.stack,
  ex:=d.fp,fn:=fun _=>false,calm:=X.calm,pn:=[],xe:=fun _ _=>False }
def PTs (X:Cx) (ifs:List Expr) (t:TT):Prop:=
 ∀ (pins:List (Addr × Obj)) (s:Shared) (σ:St) (H:Hp) (Q:Bool→Hp→Prop),Inv X pins σ H s→t σ H Q→
  wpAny (model X.prog X.w) X.A (forIn ifs true fun c r=>if r=true then do let ok ← isTrue c X.env (eval c X.env); pure (ForInStep.yield ok) else pure (ForInStep.yield r)) (TP X pins σ Q) X.xe s
def tYes:TT:=fun _ H Q=>Q true H
theorem pts_nil {X:Cx}:PTs X [] tYes:=by
 intro pins s σ H Q I h
 rw [List.forIn_nil]
 exact wpAny_pure ⟨H,I,h⟩
theorem pts_one {X:Cx} {c:Expr} {t:TT} (hc:PT X c t):PTs X [c] t:=by
 intro pins s σ H Q I h
 rw [List.forIn_cons,if_pos rfl]
 refine wpAny_bind (wpAny_bind (thn (hc pins s σ H Q I h) fun b s1 q=>wpAny_pure ?_))
 show wpAny _ _ (forIn [] b _) _ _ s1
 rw [List.forIn_nil]
 exact wpAny_pure q
def GFr (n:Nat) (g:TG):Prop:=∀ v σ H Q,g v σ H Q→g v σ H fun σ2 H2=>Q σ2 H2∧σ2.length=σ.length∧∀ i,n≤i→σ2[i]? = σ[i]?
theorem gfr_name {n i:Nat} (h:i < n):GFr n (gName i):=fun v σ H Q q=>⟨q,by simp,fun j hj=>by
 rw [List.getElem?_set_ne (by omega)]⟩
def GsFr (n:Nat) (g:TGs):Prop:=∀ v σ H Q,g v σ H Q→g v σ H fun σ2 H2=>Q σ2 H2∧σ2.length=σ.length∧∀ i,n≤i→σ2[i]? = σ[i]?
theorem gsfr_nil {n:Nat}:GsFr n gNil:=fun v σ H Q q=>⟨q.1,q.2,rfl,fun _ _=>rfl⟩
theorem gsfr_name {n i:Nat} {u:TGs} (h:i < n) (hu:GsFr n u):GsFr n (gCons (gName i) u):=fun v σ H Q q=>by
 obtain ⟨x,r,e,q⟩:=q
 refine ⟨x,r,e,?_⟩
 have q2:=hu r (σ.set i (some x)) H Q q
 have mono:∀ Q1 Q2:St→Hp→Prop,(∀ a b,Q1 a b→Q2 a b)→True:=fun _ _ _=>True.intro
 have e1:(σ.set i (some x)).length=σ.length:=by simp
 have e2:∀ j,n≤j→(σ.set i (some x))[j]? = σ[j]?:=fun j hj=>by rw [List.getElem?_set_ne (by omega)]
 have:(fun σ2 H2=>Q σ2 H2∧σ2.length=(σ.set i (some x)).length∧∀ j,n≤j→σ2[j]? = (σ.set i (some x))[j]?)=fun σ2 H2=>Q σ2 H2∧σ2.length=σ.length∧∀ j,n≤j→σ2[j]? = σ[j]?:=by
  funext σ2 H2
  rw [e1]
  refine propext ⟨fun z=>⟨z.1,z.2.1,fun j hj=>(z.2.2 j hj).trans (e2 j hj)⟩,fun z=>⟨z.1,z.2.1,fun j hj=>(z.2.2 j hj).trans (e2 j hj).symm⟩⟩
 rw [this] at q2
 exact q2
theorem gfr_tup {n k:Nat} {K:PySem.W.Frag} {u:TGs} (hu:GsFr n u):GFr n (gTup K k u):=fun v σ H Q q=>by
 obtain ⟨a,xs,e,h1,h2,q⟩:=q
 exact ⟨a,xs,e,h1,h2,hu xs σ H Q q⟩
def CompW (J:It) (n:Nat) (fr:List Nat) (g:TG) (tt:TT) (te:TE) (σ:St) (H1:Hp) (Q:VK):Prop:=∃ W:Nat→Nat→List V→Hp→Prop,(∃ m,W 0 m [] H1)∧∀ i m acc H2,W i m acc H2→
 acc.length < sizeLine∧((J.stop i H2∧∀ l,H2 l=none→Q (.ref l) (upd H2 l (.lst acc)))∨
  (J.go i H2∧∃ Nx:List V→Hp→Prop,(∀ acc' H',Nx acc' H'→∃ m',m' < m∧W (i+1) m' acc' H')∧
   ∀ x H3,J.yld i H2 x H3→g x (inSt n fr σ) H3 fun σ4 H4=>tt σ4 H4 fun b H5=>if b=true then te σ4 H5 fun v H6=>Nx (acc ++ [v]) H6 else Nx acc H5))
def tComp (n:Nat) (fr:List Nat) (wi:TI) (g:TG) (tt:TT) (te:TE):TE:=fun σ H Q=>wi σ H fun J H1=>CompW J n fr g tt te σ H1 Q
section
variable {X:Cx} {pins:List (Addr × Obj)} {σ:St} {H:Hp} {s:Shared}
theorem Inv.adopt {a:Addr} {o:HO} (I:Inv X pins σ H s) (hp:X.s₀.heap.objs.size≤a) (hn:H a=none) (hL:a≠X.env.locals) (hc:∀ x c,X.env.cells.lookup x=some c→c≠a)
  (hq:∀ p∈X.pn ++ pins,p.1≠a) (new:ObjOk X.prog X.w (upd H a o) s.heap a o):Inv X pins σ (upd H a o) s:=by
 refine ⟨I.ok,I.os,I.bare,⟨I.base.keep,I.base.slot,fun b ob e n hx=>?_,I.base.there,fun b xs e=>?_,fun b ob u e=>?_,fun b ps e=>?_⟩,I.loc,I.cell,?_,fun x c e=>?_,fun p hp'=>?_,fun b u e=>?_,I.len⟩
 ·rw [upd_ne (Nat.ne_of_lt (Nat.lt_of_lt_of_le (Heap.lt_size e) hp))]
  exact I.base.free b ob e n hx
 ·have q:=I.base.tups b xs e
  rw [upd_ne (ne_of_none q hn)]
  exact q
 ·have q:=I.base.frzs b ob u e
  rw [upd_ne (ne_of_none q hn)]
  exact q
 ·obtain ⟨more,q⟩:=I.base.tbls b ps e
  exact ⟨more,by rw [upd_ne (ne_of_none q hn)]; exact q⟩
 ·rw [upd_ne (Ne.symm hL)]
  exact I.free
 ·rw [upd_ne (hc x c e)]
  exact I.freeC x c e
 ·obtain ⟨h1,h2,h3⟩:=I.pin p hp'
  exact ⟨h1,by rw [upd_ne (hq p hp')]; exact h2,h3⟩
 ·by_cases hb:b=a
  ·subst hb
   rw [upd_same] at e
   cases e
   exact new
  ·rw [upd_ne hb] at e
   refine (I.hok b u e).stay (fun c v _ q=>q) (fun c q=>?_) fun c xs q=>?_
   ·rw [upd_ne (ne_of_none q hn)]; exact q
   ·rw [upd_ne (ne_of_none q hn)]; exact q
end
section
variable {prog:Program} {w:World} {A:Around} {R:Result→Shared→Prop} {s:Shared}
theorem loop_comp {elt target iter:Expr} {ifs:List Expr} {scope:Scope} {pos:Pos} {it acc:Value} {env:Env} (J:Nat→Shared→Prop)
  (turn:∀ n s,J n s→wpAny (model prog w) A (pyNext it) (fun r s1=>match r with
   | none=>R (.ok .next) s1
   | some v=>wpAny (model prog w) A (letOwnedTupleGo target it v) (fun _ s2=>wpAny (model prog w) A (assign target env v) (fun _ s3=>
     wpAny (model prog w) A (forIn ifs true fun c r=>if r=true then do let ok ← isTrue c env (eval c env); pure (ForInStep.yield ok) else pure (ForInStep.yield r)) (fun ok s4=>
      if ok=true then wpAny (model prog w) A (eval elt env) (fun x s5=>wpAny (model prog w) A (call (.builtin "list.append") [acc,x]) (fun _ s6=>∃ m,m < n∧J m s6) (fun _ _=>False) s5) (fun _ _=>False) s4
      else ∃ m,m < n∧J m s4) (fun _ _=>False) s3) (fun _ _=>False) s2) (fun _ _=>False) s1) (fun _ _=>False) s)
  (n:Nat) (h:J n s):codeAny (model prog w) A (.compLoop (.ListComp elt [⟨target,iter,ifs,0⟩] scope pos) 0 it acc env) R s:=by
 refine codeAny_loop rfl J (fun k t hJ=>?_) n h
 show wpAny _ A ((compTurn (.ListComp elt [⟨target,iter,ifs,0⟩] scope pos) 0 it acc env).onRaise (fun x=>do noteFrame x env; theTreesLotGoes x)) _ _ t
 refine wpAny_noted ?_
 rw [compTurn_list]
 have no:∀ {α:Type} {m:Sem α} {Q:α→Shared→Prop} {E:Value→Shared→Prop} {u:Shared},wpAny (model prog w) A m Q (fun _ _=>False) u→wpAny (model prog w) A m Q E u:=fun q=>wpAny_mono q (fun _ _ z=>z) fun _ _ z=>z.elim
 refine wpAny_bind (wpAny_standAt (wpAny_bind (no (thn (turn k t hJ) fun r s1 h1=>?_))))
 cases r with
 | none=>exact wpAny_pure h1
 | some v=>
  refine wpAny_bind (no (thn h1 fun _ s2 h2=>wpAny_bind (no (thn h2 fun _ s3 h3=>wpAny_bind (no (thn h3 fun ok s4 h4=>?_))))))
  cases ok with
  | false=>exact wpAny_pure ⟨rfl,h4⟩
  | true=>
   exact wpAny_bind (wpAny_bind (no (thn h4 fun x s5 h5=>wpAny_bind (no (thn h5 fun _ s6 h6=>wpAny_pure (wpAny_pure ⟨rfl,h6⟩))))))
end
section
variable {X:Cx} {sc scope:Scope} {Nm own:List Str} {fr:List Nat} {elt tg iter:Expr} {ifs:List Expr} {cpos:Pos} {wi:TI} {g:TG} {tt:TT} {te:TE}
theorem lookup_relab {env:Env} {x:Str} {k:NameKind}:∀ {names:List (Str × NameKind)},(names.map fun (n,k)=>if (k==NameKind.free && env.scope.kind==.function && env.kindOf n==some .cell) then (n,NameKind.cell) else (n,k)).lookup x=some k→
  names.lookup x=some k∨(k=.cell∧names.lookup x=some .free)
 | [],h=>by simp at h
 | (n,j) :: r,h=>by
  have ih:=@lookup_relab env x k r
  have h':List.lookup x ((if (j==NameKind.free && env.scope.kind==.function && env.kindOf n==some .cell)=true then (n,NameKind.cell) else (n,j)) :: _)=some k:=h
  cases hx:x==n with
  | true=>
   by_cases hc:(j==NameKind.free && env.scope.kind==.function && env.kindOf n==some .cell)=true
   ·rw [if_pos hc] at h'
    simp only [List.lookup_cons,hx] at h' ⊢
    simp only [Bool.and_eq_true,beq_iff_eq] at hc
    exact .inr ⟨(Option.some.inj h').symm,congrArg some hc.1.1⟩
   ·rw [if_neg hc] at h'
    simp only [List.lookup_cons,hx] at h' ⊢
    exact .inl h'
  | false=>
   have h2:List.lookup x (r.map fun (n,k)=>if (k==NameKind.free && env.scope.kind==.function && env.kindOf n==some .cell) then (n,NameKind.cell) else (n,k))=some k:=by
    by_cases hc:(j==NameKind.free && env.scope.kind==.function && env.kindOf n==some .cell)=true
    ·rw [if_pos hc] at h'
     simpa only [List.lookup_cons,hx] using h'
    ·rw [if_neg hc] at h'
     simpa only [List.lookup_cons,hx] using h'
   simp only [List.lookup_cons,hx]
   exact ih h2
theorem relab_free {env:Env} {x:Str}:∀ {names:List (Str × NameKind)},names.lookup x=some .free→
  (names.map fun (n,k)=>if (k==NameKind.free && env.scope.kind==.function && env.kindOf n==some .cell) then (n,NameKind.cell) else (n,k)).lookup x=some .cell∨
  (names.map fun (n,k)=>if (k==NameKind.free && env.scope.kind==.function && env.kindOf n==some .cell) then (n,NameKind.cell) else (n,k)).lookup x=some .free
 | [],h=>by simp at h
 | (n,j) :: r,h=>by
  have ih:=@relab_free env x r
  show List.lookup x ((if (j==NameKind.free && env.scope.kind==.function && env.kindOf n==some .cell)=true then (n,NameKind.cell) else (n,j)) :: _)=_∨List.lookup x ((if (j==NameKind.free && env.scope.kind==.function && env.kindOf n==some .cell)=true then (n,NameKind.cell) else (n,j)) :: _)=_
  cases hx:x==n with
  | true=>
   simp only [List.lookup_cons,hx] at h
   by_cases hc:(j==NameKind.free && env.scope.kind==.function && env.kindOf n==some .cell)=true
   ·rw [if_pos hc]; simp only [List.lookup_cons,hx]; first | exact .inl rfl | exact .inl trivial
   ·rw [if_neg hc]; simp only [List.lookup_cons,hx]; exact .inr h
  | false=>
   simp only [List.lookup_cons,hx] at h
   by_cases hc:(j==NameKind.free && env.scope.kind==.function && env.kindOf n==some .cell)=true
   ·rw [if_pos hc]; simp only [List.lookup_cons,hx]; exact ih h
   ·rw [if_neg hc]; simp only [List.lookup_cons,hx]; exact ih h
theorem comp_core (S:CompOk sc Nm own fr scope) (hsc:X.env.scope=sc) (hN:X.N=Nm) (hc:X.calm=true) (hgf:GFr own.length g) (hi:PI X tg iter wi) (hg:∀ d,PG (compCx X (inNm own Nm fr) scope d) tg g)
  (ht:∀ d,PTs (compCx X (inNm own Nm fr) scope d) ifs tt) (he:∀ d,PE (compCx X (inNm own Nm fr) scope d) elt te) (hs:∀ x,foldedSetIterable iter X.env x=pure x)
  {use:Option (Value→Sem Unit)} {Q0:Value→Shared→Prop} {pins:List (Addr × Obj)} {s:Shared} {σ:St} {H:Hp} (I:Inv X pins σ H s) {Qf:VK} (h:tComp own.length fr wi g tt te σ H Qf)
  (hfin:∀ (D C:Addr) (Hd:Hp) (s':Shared) (m:Str→Option Value),Inv X pins σ Hd s'→Qf (.ref D) Hd→s'.heap.Ns C m→Hd C=none→X.s₀.heap.objs.size≤C→C≠X.env.locals→(∀ x c,X.env.cells.lookup x=some c→c≠C)→
   (∀ p∈X.pn ++ pins,p.1≠C)→compPost (model X.prog X.w) X.A X.xe use Q0 (.ref D) C (.ok .next) s') :
  wpAny (model X.prog X.w) X.A (comprehension (.ListComp elt [⟨tg,iter,ifs,0⟩] scope cpos) scope X.env (firstIterPos [⟨tg,iter,ifs,0⟩] cpos) (newList []) false (eval iter X.env) use) Q0 X.xe s:=by
 have hfree:∀ y∈scope.names,y.2=NameKind.free→∃ c,X.env.cells.lookup y.1=some c:=fun y hy hk=>by
  have q:=S.free y hy hk
  rw [← hsc] at q
  exact I.ok.has y.1 q
 refine wpAny_comprehension_free (g:=⟨tg,iter,ifs,0⟩) (gs:=[]) rfl hs (closure_is hfree) S.kind S.locs ?_
 refine thn (hi pins s σ H _ I h) fun v s1 h1=>thn h1 fun itv s2 h2=>?_
 obtain ⟨it,fp,tn,J,H2,e,I2,T,st2,f2,W,⟨m0,w0⟩,turn⟩:=h2
 subst e
 refine wpAny_newObj_type (wpAny_newFunctionEnv S.nocell (by intro y hy; simp at hy) (fun h1 hns hsb=>?_) S.kind)
 dsimp only at hns hsb ⊢
 generalize hG:s2.heap.push { cls:=.type "list",dict:=none,data:=.seq ([]:List Value).toArray } = G at hns hsb ⊢
 have hC:G.objs.size=s2.heap.objs.size+1:=by rw [← hG,Heap.size_push]
 have hDC:s2.heap.objs.size≠G.objs.size:=by omega
 have lo:∀ b,b < s2.heap.objs.size→b≠G.objs.size∧b≠s2.heap.objs.size:=fun b hb=>⟨by omega,by omega⟩
 have old:∀ b o,s2.heap.get? b=some o→h1.get? b=some o:=fun b o e=>hsb.extBut b o (lo b (Heap.lt_size e)).1 (Heap.get?_push_of_some _ (hG▸Heap.get?_push_of_some _ e))
 have hacc:h1.PlainList s2.heap.objs.size #[]:=⟨_,hsb.extBut _ _ hDC (Heap.get?_push_of_some _ (hG▸Heap.get?_push_size _ rfl))⟩
 have fpl:∀ b∈fp,b < s2.heap.objs.size:=fun b hb=>by
  obtain ⟨o,e,_⟩:=T.obj 0 _ st2 b hb
  exact Heap.lt_size e
 have hDf:s2.heap.objs.size∉fp:=fun z=>Nat.lt_irrefl _ (fpl _ z)
 have hCf:G.objs.size∉fp:=fun z=>Nat.lt_irrefl _ (Nat.lt_trans (fpl _ z) (by rw [hC]; exact Nat.lt_succ_self _))
 have cellL:∀ x c,(clOf X.env scope.names []).lookup x=some c→X.env.cells.lookup x=some c∧(x,NameKind.free)∈scope.names:=fun x c e=>by
  have e1:=clOf_good (env:=X.env) scope.names [] (fun y c z=>by simp at z) x c e
  rcases clOf_mem scope.names [] e with z | z
  ·simp at z
  ·obtain ⟨c',e'⟩:=hfree _ z rfl
   rw [e1,e']
   exact ⟨rfl,z⟩
 have cellLt:∀ x c,X.env.cells.lookup x=some c→c < s2.heap.objs.size:=fun x c e=>by
  obtain ⟨v,q⟩:=I2.cell x c e
  exact q.lt
 let d:CD:=⟨clOf X.env scope.names [],G.objs.size,s2,H2,fp⟩
 have isFree:∀ x,((compCx X (inNm own Nm fr) scope d).env.kindOf x=some .cell∨(compCx X (inNm own Nm fr) scope d).env.kindOf x=some .free)→scope.names.lookup x=some .free:=fun x hx=>by
  have noC:scope.names.lookup x≠some .cell:=fun z=>S.nocell _ (PySem.mem_of_lookup z) rfl
  rcases hx with hx | hx
  ·rcases lookup_relab (names:=scope.names) hx with z | z
   ·exact absurd z noC
   ·exact z.2
  ·rcases lookup_relab (names:=scope.names) hx with z | z
   ·exact z
   ·exact absurd z.1 (by decide)
 have ok:(compCx X (inNm own Nm fr) scope d).Ok:=by
  refine ⟨I.ok.mod,S.kind,I.ok.glob,I.ok.blt,?_,fun x y c e1 e2=>?_,fun x hx=>?_,fun x c z=>?_,I.ok.hd,I.ok.frames,.inl rfl,fun b hb=>⟨?_,fun x c e=>?_⟩,I2.bs,Nat.le_trans I2.ok.bsz I2.sz,fun b o e hb=>?_,fun b hb z=>?_,I2.stack,I2.stkFree⟩
  ·show s2.heap.objs.size≤G.objs.size
   omega
  ·exact I.ok.inj x y c (cellL x c e1).1 (cellL y c e2).1
  ·exact clOf_has scope.names [] (.inr (PySem.mem_of_lookup (isFree x hx)))
  ·exact absurd (show false=true from z) Bool.false_ne_true
  ·exact fun z=>hCf ((show b=G.objs.size from z)▸hb)
  ·exact (f2 b hb).2.2.2.2.1 x c (cellL x c e).1
  ·rcases (f2 b hb).2.2.2.1 with z | z
   ·exact I.ok.noex b o e z
   ·exact absurd (Nat.lt_of_lt_of_le (Heap.lt_size e) (Nat.le_trans I.ok.bsz z)) (Nat.lt_irrefl _)
  ·rcases List.mem_cons.mp (I2.stkSub b z) with z | z
   ·exact (f2 b hb).2.1 z
   ·exact (f2 b hb).2.2.1 z
 have hfrs:∀ (i:Nat) x v,(inNm own Nm fr)[i]? = some x→(inSt own.length fr σ)[i]? = some (some v)→scope.names.lookup x=some .free∧∃ j,Nm[j]? = some x∧σ[j]? = some (some v):=fun i x v e1 e2=>by
  unfold inNm at e1
  unfold inSt at e2
  by_cases hil:i < own.length
  ·rw [List.getElem?_append_left (by simpa using hil),List.getElem?_replicate,if_pos hil] at e2
   cases e2
  ·rw [List.getElem?_append_right (by omega),List.getElem?_map] at e1
   rw [List.getElem?_append_right (by simpa using hil),List.getElem?_map,List.length_replicate] at e2
   cases q:fr[i - own.length]? with
   | none=>rw [q] at e1; cases e1
   | some j=>
    rw [q] at e1 e2
    have hj:=S.frs j (List.mem_of_getElem? q)
    have e1':Nm.getD j "" = x:=Option.some.inj e1
    have e2':σ.getD j none=some v:=Option.some.inj e2
    rw [e1'] at hj
    refine ⟨hj.2,j,?_,?_⟩
    ·rw [← e1',List.getD_eq_getElem?_getD,List.getElem?_eq_getElem hj.1]
     rfl
    ·rw [List.getD_eq_getElem?_getD] at e2'
     cases q2:σ[j]? with
     | none=>rw [q2] at e2'; cases e2'
     | some z=>rw [q2] at e2'; exact congrArg some e2'
 have lenSt:(inSt own.length fr σ).length=(inNm own Nm fr).length:=by
  unfold inSt inNm
  simp
 have J0:∀ tk,Inv (compCx X (inNm own Nm fr) scope d) [] (inSt own.length fr σ) H2 { s2 with heap:=h1,toks:=tk }:=fun tk=>by
  obtain ⟨m,hn,hl⟩:=I2.loc
  refine ⟨ok,rfl,I2.bare,Un.kept old,⟨_,hns,fun i x v e1 e2 _=>?_⟩,fun x c e=>?_,I2.hok.fresh (show s2.heap.objs.size≤G.objs.size by omega),fun x c e=>I2.freeC x c (cellL x c e).1,fun p hp=>absurd (show p∈([]:List (Addr × Obj)) from hp) (by simp),I2.hok.kept old,lenSt⟩
  ·obtain ⟨hf,j,hj1,hj2⟩:=hfrs i x v e1 e2
   have kd:X.env.scope.names.lookup x=some .cell∨X.env.scope.names.lookup x=some .free:=by
    rw [hsc]
    exact S.free _ (PySem.mem_of_lookup hf) rfl
   obtain ⟨u,r,q⟩:=hl j x v (by rw [hN]; exact hj1) hj2 (kd.elim (fun z=>.inr (.inl z)) fun z=>.inr (.inr z))
   refine ⟨u,r,.inr ⟨relab_free hf,?_⟩⟩
   obtain ⟨c,e⟩:=clOf_has (env:=X.env) scope.names [] (.inr (PySem.mem_of_lookup hf))
   refine ⟨c,e,?_⟩
   rcases q with ⟨k,_⟩ | ⟨_,c',e',z⟩
   ·have k':X.env.scope.names.lookup x=some .local:=k
    rcases kd with y | y <;> rw [y] at k' <;> cases k'
   ·have:c=c':=Option.some.inj ((cellL x c e).1.symm.trans e')
    subst this
    obtain ⟨o,ho,hd⟩:=z
    exact ⟨o,old _ o ho,hd⟩
  ·obtain ⟨v,o,ho,hd⟩:=I2.cell x c (cellL x c e).1
   exact ⟨v,o,old _ o ho,hd⟩
 have stat:∀ {H':Hp} {pl:List (Addr × Obj)},(∀ b∈fp,H' b=none)→(∀ p∈pl,p.1∉fp)→∀ b∈fp,FpOk (compCx X (inNm own Nm fr) scope d) pl H' b:=fun hn hp b hb=>
  ⟨hn b hb,fun z=>hCf ((show b=G.objs.size from z)▸hb),ok.exfs b hb,.inl hb,(ok.exf b hb).2,fun p hp' z=>hp p (by simpa using (show p∈([]:List (Addr × Obj)) ++ _ from hp')) (z▸hb)⟩
 have loop:∀ tk,codeAny (model X.prog X.w) X.A (.compLoop (.ListComp elt [⟨tg,iter,ifs,0⟩] scope cpos) 0 (.ref it) (.ref s2.heap.objs.size) (compEnvC scope (clOf X.env scope.names []) G.objs.size X.env))
   (compPost (model X.prog X.w) X.A X.xe use Q0 (.ref s2.heap.objs.size) G.objs.size) { s2 with heap:=h1,toks:=tk }:=by
  intro tk
  refine loop_comp (fun n s'=>∃ i acc its H',Inv (compCx X (inNm own Nm fr) scope d) [] (inSt own.length fr σ) H' s'∧tn i s'.heap∧(∀ b∈fp,H' b=none)∧H' s2.heap.objs.size=none∧Vals acc its∧s'.heap.PlainList s2.heap.objs.size its.toArray∧W i n acc H') ?_ m0
   ⟨0,[],[],H2,J0 tk,T.keep 0 _ _ st2 fun b _ o e=>old b o e,fun b hb=>(f2 b hb).1,I2.hok.fresh (Nat.le_refl _),.nil,hacc,w0⟩
  rintro n s3 ⟨i,acc,its,H3,I3,st3,fr3,nD,va,⟨na,pa⟩,w3⟩
  have pinD:Inv (compCx X (inNm own Nm fr) scope d) [(s2.heap.objs.size,{ cls:=.type "list",data:=.seq its.toArray na })] (inSt own.length fr σ) H3 s3:=I3.pins_of fun p hp=>by
   have hp':=List.mem_singleton.mp hp
   subst hp'
   refine ⟨pa,nD,hDC,fun z=>?_,fun v z=>?_⟩
   ·have z':s2.heap.objs.size∈frs X.stack:=z
    rcases List.mem_cons.mp (I2.stkSub _ z') with y | y
    ·exact absurd I2.lt (by rw [← y]; exact Nat.lt_irrefl _)
    ·exact I2.nofs (Nat.le_refl _) y
   ·have z':Data.seq its.toArray na=Data.cell v:=z
    cases z'
  have pinsOut:∀ p∈[(s2.heap.objs.size,({ cls:=.type "list",data:=.seq its.toArray na }:Obj))],p.1∉fp:=fun p hp=>by
   rw [List.mem_singleton.mp hp]
   exact hDf
  obtain ⟨hz,alt⟩:=turn i n acc H3 w3
  rcases alt with ⟨stop,qn⟩ | ⟨go,Nx,hNx,step⟩
  ·refine thn (T.done (compCx X (inNm own Nm fr) scope d) rfl rfl rfl hc i _ s3 _ H3 _ pinD (stat fr3 pinsOut) st3 stop) fun r s4 ⟨hr,I4⟩=>?_
   subst hr
   have pD:=I4.pin (s2.heap.objs.size,{ cls:=.type "list",data:=.seq its.toArray na }) (List.mem_append_right _ (List.mem_singleton.mpr rfl))
   obtain ⟨m4,hn4,_⟩:=I4.loc
   have I5:Inv X pins σ H3 s4:=I2.call' (ch:=fp) I4.os I4.base I4.hok I4.bare fun b hb=>⟨(f2 b hb).2.2.2.1,(f2 b hb).2.1,(f2 b hb).2.2.2.2.1,(f2 b hb).2.2.2.2.2⟩
   have far:∀ a,s2.heap.objs.size≤a→X.s₀.heap.objs.size≤a∧a≠X.env.locals∧(∀ x c,X.env.cells.lookup x=some c→c≠a)∧∀ p∈X.pn ++ pins,p.1≠a:=fun a ha=>
    ⟨Nat.le_trans I2.sz ha,Nat.ne_of_gt (Nat.lt_of_lt_of_le I2.lt ha),fun x c e=>Nat.ne_of_lt (Nat.lt_of_lt_of_le (cellLt x c e) ha),fun p hp=>Nat.ne_of_lt (Nat.lt_of_lt_of_le (Heap.lt_size (I2.pin p hp).1) ha)⟩
   have fD:=far s2.heap.objs.size (Nat.le_refl _)
   have fC:=far G.objs.size (by omega)
   have I6:=I5.adopt (o:=.lst acc) fD.1 pD.2.1 fD.2.1 fD.2.2.1 fD.2.2.2 ⟨Nat.le_of_lt hz,its,na,va,pD.1⟩
   exact hfin s2.heap.objs.size G.objs.size _ s4 m4 I6 (qn _ pD.2.1) hn4 (by rw [upd_ne (Ne.symm hDC)]; exact I4.free) fC.1 fC.2.1 fC.2.2.1 fC.2.2.2
  ·refine thn (T.item (compCx X (inNm own Nm fr) scope d) rfl rfl rfl hc i _ s3 _ H3 _ pinD (stat fr3 pinsOut) st3 go) fun r s4 ⟨u,hr,h4⟩=>?_
   subst hr
   refine thn h4 fun _ s5 ⟨x,H5,I5,r5,y5,st5,fr5⟩=>?_
   have I5':=I5.pinned (stat fr5 pinsOut) (T.obj _ _ st5)
   refine thn (hg d _ s5 _ H5 x u _ I5' r5 (hgf _ _ _ _ (step x H5 y5))) fun _ s6 ⟨σ6,H6,I6,q6,l6,k6⟩=>?_
   have wk:∀ (j:Nat) v,(inSt own.length fr σ)[j]? = some (some v)→σ6[j]? = some (some v):=fun j v e=>by
    by_cases hj:j < own.length
    ·unfold inSt at e
     rw [List.getElem?_append_left (by simpa using hj),List.getElem?_replicate,if_pos hj] at e
     cases e
    ·rw [k6 j (by omega)]
     exact e
   refine thn (ht d _ s6 σ6 H6 _ I6 q6) fun b s7 ⟨H7,I7,q7⟩=>?_
   have fpK:∀ {σ':St} {H':Hp} {s':Shared},Inv (compCx X (inNm own Nm fr) scope d) ([(s2.heap.objs.size,({ cls:=.type "list",data:=.seq its.toArray na }:Obj))] ++ pinsAt fp s5.heap) σ' H' s'→
     tn (i+1) s'.heap∧(∀ b∈fp,H' b=none)∧H' s2.heap.objs.size=none∧s'.heap.get? s2.heap.objs.size=some { cls:=.type "list",data:=.seq its.toArray na }:=fun {σ' H' s'} I'=>by
    have pD:=I'.pin (s2.heap.objs.size,{ cls:=.type "list",data:=.seq its.toArray na }) (List.mem_append_right _ (List.mem_append_left _ (List.mem_singleton.mpr rfl)))
    refine ⟨T.keep _ _ _ st5 fun b hb o e=>(I'.pin (b,o) (List.mem_append_right _ (List.mem_append_right _ (mem_pinsAt hb e)))).1,fun b hb=>?_,pD.2.1,pD.1⟩
    obtain ⟨o,e,_⟩:=T.obj _ _ st5 b hb
    exact (I'.pin (b,o) (List.mem_append_right _ (List.mem_append_right _ (mem_pinsAt hb e)))).2.1
   have drop:∀ {σ':St} {H':Hp} {s':Shared},(∀ (j:Nat) v,(inSt own.length fr σ)[j]? = some (some v)→σ'[j]? = some (some v))→Inv (compCx X (inNm own Nm fr) scope d) ([(s2.heap.objs.size,({ cls:=.type "list",data:=.seq its.toArray na }:Obj))] ++ pinsAt fp s5.heap) σ' H' s'→
     Inv (compCx X (inNm own Nm fr) scope d) [] (inSt own.length fr σ) H' s':=fun {σ' H' s'} hw I'=>
    (I'.pins_of (pins':=[]) (fun p hp=>absurd hp (by simp))).weak (lenSt.trans I'.len.symm) hw
   cases b with
   | false=>
    rw [if_neg Bool.false_ne_true]
    obtain ⟨m',hm,w'⟩:=hNx acc H7 (by rw [if_neg Bool.false_ne_true] at q7; exact q7)
    obtain ⟨k1,k2,k3,k4⟩:=fpK I7
    exact ⟨m',hm,i+1,acc,its,H7,drop wk I7,k1,k2,k3,va,⟨_,k4⟩,w'⟩
   | true=>
    rw [if_pos rfl]
    rw [if_pos rfl] at q7
    refine thn (he d _ s7 σ6 H7 _ I7 q7) fun y s8 ⟨yv,H8,I8,r8,q8⟩=>?_
    obtain ⟨m',hm,w'⟩:=hNx _ H8 q8
    obtain ⟨k1,k2,k3,k4⟩:=fpK I8
    have hsz:its.toArray.size≤sizeLine:=by
     rw [List.size_toArray,← va.length]
     exact Nat.le_of_lt hz
    refine wpAny_list_append_plain (hsz:=hsz) ⟨_,k4⟩ fun h9 hl9 hs9=>?_
    have I9:Inv (compCx X (inNm own Nm fr) scope d) [] (inSt own.length fr σ) H8 { s8 with heap:=h9 }:=by
     refine (drop wk I8).turned (t':=s8.toks) (it:=s2.heap.objs.size) (fun b o hb e=>hs9.extBut b o hb e) k3 hDC (.inr (Nat.le_refl _)) (fun x c e=>?_) fun p hp=>absurd (show p∈([]:List (Addr × Obj)) from hp) (by simp)
     exact Nat.ne_of_lt (cellLt x c (cellL x c e).1)
    refine ⟨m',hm,i+1,acc ++ [yv],its ++ [y],H8,I9,T.keep _ _ _ k1 fun b hb o e=>hs9.extBut b o (fun z=>hDf (z▸hb)) e,k2,k3,va.append (.cons r8 .nil),?_,w'⟩
    rw [show (its ++ [y]).toArray=its.toArray.push y by simp]
    exact hl9
 exact codeAny_compStart_list (loop _) (T.self _ 0 _ _ _ (T.keep 0 _ _ st2 fun b _ o e=>old b o e) (loop _))
theorem pe_comp (S:CompOk sc Nm own fr scope) (hc:X.calm=true) (hgf:GFr own.length g) (hi:PI X tg iter wi) (hg:∀ d,PG (compCx X (inNm own Nm fr) scope d) tg g)
  (ht:∀ d,PTs (compCx X (inNm own Nm fr) scope d) ifs tt) (he:∀ d,PE (compCx X (inNm own Nm fr) scope d) elt te) (hsc:X.env.scope=sc:=by rfl) (hN:X.N=Nm:=by rfl)
  (hs:∀ x,foldedSetIterable iter X.env x=pure x:=by intro _; rfl):PE X (.ListComp elt [⟨tg,iter,ifs,0⟩] scope cpos) (tComp own.length fr wi g tt te):=by
 intro pins s σ H Q I h
 rw [eval_ListComp]
 refine comp_core (use:=none) S hsc hN hc hgf hi hg ht he hs I h fun D C Hd s' m I' q hn nC c1 c2 c3 c4=>?_
 exact ⟨m,hn,fun h' hb=>⟨.ref D,Hd,I'.turned (t':=s'.toks) (fun b o hne e=>hb.extBut b o hne e) nC c2 (.inr c1) c3 c4,rfl,q⟩⟩
theorem ps_setc {i:Nat} {x:Str} {pos pos':Pos} (hNd:X.N.Nodup) (hix:X.N[i]? = some x) (hx:X.env.scope.names.lookup x=some .local) (S:CompOk sc Nm own fr scope) (hc:X.calm=true) (hgf:GFr own.length g) (hi:PI X tg iter wi)
  (hg:∀ d,PG (compCx X (inNm own Nm fr) scope d) tg g) (ht:∀ d,PTs (compCx X (inNm own Nm fr) scope d) ifs tt) (he:∀ d,PE (compCx X (inNm own Nm fr) scope d) elt te) (hsc:X.env.scope=sc:=by rfl) (hN:X.N=Nm:=by rfl)
  (hs:∀ x,foldedSetIterable iter X.env x=pure x:=by intro _; rfl)
  (hsw:swapsWith (.ListComp elt [⟨tg,iter,ifs,0⟩] scope cpos) (some (.Name x pos')) pos.line X.env=pure true:=by rfl) :
  PS X (.Assign [.Name x pos'] (.ListComp elt [⟨tg,iter,ifs,0⟩] scope cpos) pos) (tAsg (tComp own.length fr wi g tt te) (gName i)):=by
 intro pins s σ H D0 I h
 rw [exec_Assign_Name_used _ _ _ _ hsw]
 refine wpAny_bind (wpAny_standAt (wpAny_bind ?_))
 refine wpAny_bind (thn (comp_core (use:=some (assign (.Name x pos') X.env)) (Q0:=fun _ s'=>SP X pins D0 .next s') S hsc hN hc hgf hi hg ht he hs I h fun D C Hd s' m I' q hn nC c1 c2 c3 c4=>?_) fun _ s' q=>wpAny_pure (wpAny_pure q))
 show wpAny _ _ (assign (.Name x pos') X.env (.ref D)) _ _ s'
 refine wpAny_assign_Name (store_ok2 I' hNd hix (.inl hx) (v:=.ref D) rfl (fun s2 I2 ⟨a,sb,ha⟩=>?_) (.inr hx))
 have hCa:C≠a:=by
  rcases ha with z | z
  ·rw [z]; exact c2
  ·exact (c3 x a z).symm
 refine ⟨m,hn.sameBut sb hCa,fun h' hb=>⟨_,Hd,I2.turned (t':=s2.toks) (fun b o hne e=>hb.extBut b o hne e) nC c2 (.inr c1) c3 c4,q⟩⟩
end
theorem comp_gen {J:It} {n k:Nat} {fr:List Nat} {g:TG} {tt:TT} {te:TE} {σ:St} {H:Hp} {Q:VK} (Pv:Nat→List V→Hp→Prop) (hk:k < sizeLine) (h0:Pv 0 [] H) (hlen:∀ i acc H,Pv i acc H→acc.length≤i)
  (hgo:∀ i acc H,i < k→Pv i acc H→J.go i H) (hst:∀ acc H,Pv k acc H→J.stop k H)
  (hs:∀ i acc H2 x H3,i < k→Pv i acc H2→J.yld i H2 x H3→g x (inSt n fr σ) H3 fun σ4 H4=>tt σ4 H4 fun b H5=>if b=true then te σ4 H5 fun v H6=>Pv (i+1) (acc ++ [v]) H6 else Pv (i+1) acc H5)
  (hd:∀ acc H2,Pv k acc H2→∀ l,H2 l=none→Q (.ref l) (upd H2 l (.lst acc))) :
  CompW J n fr g tt te σ H Q:=by
 refine ⟨fun i m acc H=>m=k - i∧i≤k∧Pv i acc H,⟨k,by simp,Nat.zero_le _,h0⟩,?_⟩
 rintro i m acc H2 ⟨rfl,hi,p⟩
 have hl:=hlen i acc H2 p
 refine ⟨by omega,?_⟩
 by_cases hlt:i < k
 ·exact .inr ⟨hgo i acc H2 hlt p,Pv (i+1),fun acc' H' p'=>⟨k - (i+1),by omega,rfl,hlt,p'⟩,fun x H3 y=>hs i acc H2 x H3 hlt p y⟩
 ·have e:i=k:=by omega
  subst e
  exact .inl ⟨hst acc H2 p,hd acc H2 p⟩
def comp_range {lo:Int} {n k:Nat} {fr:List Nat} {g:TG} {tt:TT} {te:TE} {σ:St} {H:Hp} {Q:VK} (Pv:Nat→List V→Hp→Prop) (hk:k < sizeLine) (h0:Pv 0 [] H) (hlen:∀ i acc H,Pv i acc H→acc.length≤i)
  (hs:∀ i acc H2,i < k→Pv i acc H2→g (.int (lo+i)) (inSt n fr σ) H2 fun σ4 H4=>tt σ4 H4 fun b H5=>if b=true then te σ4 H5 fun v H6=>Pv (i+1) (acc ++ [v]) H6 else Pv (i+1) acc H5)
  (hd:∀ acc H2,Pv k acc H2→∀ l,H2 l=none→Q (.ref l) (upd H2 l (.lst acc))):=
 comp_gen (J:=Itr lo k) (n:=n) (fr:=fr) (g:=g) (tt:=tt) (te:=te) (σ:=σ) (Q:=Q) Pv hk h0 hlen (fun _ _ _ h _=>h) (fun _ _ _=>Nat.le_refl _) (fun i acc H2 x H3 hi p y=>by
  obtain ⟨e1,e2⟩:=y
  subst e1 e2
  exact hs i acc _ hi p) hd
def comp_list {K:PySem.W.Frag} {a:Addr} {xs:List V} {n:Nat} {fr:List Nat} {g:TG} {tt:TT} {te:TE} {σ:St} {H:Hp} {Q:VK} (Pv:Nat→List V→Hp→Prop) (hk:xs.length < sizeLine) (h0:Pv 0 [] H) (hlen:∀ i acc H,Pv i acc H→acc.length≤i)
  (hl:∀ i acc H,Pv i acc H→SqL K H a xs)
  (hs:∀ i acc H2 x,xs[i]? = some x→Pv i acc H2→g x (inSt n fr σ) H2 fun σ4 H4=>tt σ4 H4 fun b H5=>if b=true then te σ4 H5 fun v H6=>Pv (i+1) (acc ++ [v]) H6 else Pv (i+1) acc H5)
  (hd:∀ acc H2,Pv xs.length acc H2→∀ l,H2 l=none→Q (.ref l) (upd H2 l (.lst acc))):=
 comp_gen (J:=Itl K a) (n:=n) (fr:=fr) (g:=g) (tt:=tt) (te:=te) (σ:=σ) (Q:=Q) Pv hk h0 hlen (fun i acc H hi p=>⟨xs,xs[i],hl i acc H p,by simp [hi]⟩) (fun acc H p=>⟨xs,hl _ acc H p,Nat.le_refl _⟩) (fun i acc H2 x H3 hi p y=>by
  obtain ⟨e1,e2⟩:=y
  subst e1
  exact hs i acc _ x (e2 xs (hl i acc _ p)) p) hd
def comp_tup {K:PySem.W.Frag} {a:Addr} {xs:List V} {n:Nat} {fr:List Nat} {g:TG} {tt:TT} {te:TE} {σ:St} {H:Hp} {Q:VK} (Pv:Nat→List V→Hp→Prop) (hk:xs.length < sizeLine) (h0:Pv 0 [] H) (hlen:∀ i acc H,Pv i acc H→acc.length≤i)
  (hl:∀ i acc H,Pv i acc H→SqT K H a xs)
  (hs:∀ i acc H2 x,xs[i]? = some x→Pv i acc H2→g x (inSt n fr σ) H2 fun σ4 H4=>tt σ4 H4 fun b H5=>if b=true then te σ4 H5 fun v H6=>Pv (i+1) (acc ++ [v]) H6 else Pv (i+1) acc H5)
  (hd:∀ acc H2,Pv xs.length acc H2→∀ l,H2 l=none→Q (.ref l) (upd H2 l (.lst acc))):=
 comp_gen (J:=Itt K a) (n:=n) (fr:=fr) (g:=g) (tt:=tt) (te:=te) (σ:=σ) (Q:=Q) Pv hk h0 hlen (fun i acc H hi p=>⟨xs,xs[i],hl i acc H p,by simp [hi]⟩) (fun acc H p=>⟨xs,hl _ acc H p,Nat.le_refl _⟩) (fun i acc H2 x H3 hi p y=>by
  obtain ⟨e1,e2⟩:=y
  subst e1
  exact hs i acc _ x (e2 xs (hl i acc _ p)) p) hd
end L2
namespace L2
open PySem PySem.Spec PyProof.Rows
def Its (cs:List Nat):It:=⟨fun i _=>i < cs.length,fun i H x H'=>H'=H∧∃ c,cs[i]? = some c∧x=.str ⟨#[c]⟩,fun i _=>cs.length≤i⟩
theorem turn_str {P:Program} {w:World} {K:PySem.W.Frag} {tg:Expr} (it:Addr) (ty:String) (hty:ty = "str_ascii_iterator"∨ty = "str_iterator") (x:Str) (t:Tok) :
  Turn P w K tg (Its x.cps.toList) [it] it (fun i h=>h.IsStrIter it ty x t i) where
 mem:=by simp
 obj:=fun i h st b hb=>by
  rw [List.mem_singleton.mp hb]
  obtain ⟨o,e,c,d⟩:=st
  exact ⟨o,e,fun v z=>by rw [d] at z; cases z⟩
 keep:=fun i h h' st k=>by
  obtain ⟨o,e,r⟩:=st
  exact ⟨o,k it (by simp) o e,r⟩
 item:=by
  intro X hP hw hK hc i pins s σ H E I hf st hg
  subst hP hw hK
  have hlt:i < x.cps.toList.length:=hg
  obtain ⟨f0,f1,f2,f3,f4,f5⟩:=hf it (by simp)
  have hx:x.cps[i]? = some (x.cps.toList[i]):=by
   rw [← Array.getElem?_toList]
   exact List.getElem?_eq_getElem hlt
  have fin:∀ h',h'.IsStrIter it ty x t (i+1)→Heap.SameBut it s.heap h'→∃ u,some (Value.str ⟨#[x.cps.toList[i]]⟩ s.toks)=some u∧
    wpAny (model X.prog X.w) X.A (letOwnedTupleGo tg (.ref it) u) (fun _ s2=>∃ y H',Inv X pins σ H' s2∧RelV y u∧(Its x.cps.toList).yld i H y H'∧s2.heap.IsStrIter it ty x t (i+1)∧∀ b∈[it],H' b=none) E { s with heap:=h',toks:=s.toks+1 }:=fun h' st' sb=>by
   have I1:Inv X pins σ H { s with heap:=h',toks:=s.toks+1 }:=I.turned (fun b o hb e=>(sb.2 b hb).trans e) f0 f1 f3 f4 f5
   obtain ⟨o,e,c,d⟩:=id st'
   refine ⟨_,rfl,go_of (s:={ s with heap:=h',toks:=s.toks+1 }) (n:=ty) e c d (by rcases hty with z | z <;> subst z <;> decide) ⟨.str ⟨#[x.cps.toList[i]]⟩,H,I1,⟨_,rfl⟩,⟨rfl,_,List.getElem?_eq_getElem hlt,rfl⟩,st',fun b hb=>(hf b hb).1⟩⟩
  rcases hty with z | z
  ·subst z
   exact wpAny_pyNext_ascii_item st hx fun h' st' sb=>fin h' st' sb
  ·subst z
   exact wpAny_pyNext_wide_item st hx fun h' st' sb=>fin h' st' sb
 done:=by
  intro X hP hw hK hc i pins s σ H E I hf st hg
  subst hP hw hK
  have hle:x.cps.toList.length≤i:=hg
  obtain ⟨f0,f1,f2,f3,f4,f5⟩:=hf it (by simp)
  have hx:x.cps[i]? = none:=by
   rw [← Array.getElem?_toList]
   exact List.getElem?_eq_none_iff.mpr hle
  rcases hty with z | z
  ·subst z
   exact wpAny_pyNext_ascii_end (I.ok.hd hc) st hx fun h' eb=>⟨rfl,I.turned (t':=s.toks) (fun b o hb e=>eb b o hb e) f0 f1 f3 f4 f5⟩
  ·subst z
   exact wpAny_pyNext_wide_end (I.ok.hd hc) st hx fun h' eb=>⟨rfl,I.turned (t':=s.toks) (fun b o hb e=>eb b o hb e) f0 f1 f3 f4 f5⟩
 self:=fun _ _ _ _ _ st h=>by
  rcases hty with z | z
  ·subst z
   exact wpAny_pyIter_striter_ascii st h
  ·subst z
   exact wpAny_pyIter_striter_wide st h
section
variable {X:Cx} {tg e:Expr} {te:TE}
def iStr (te:TE):TI:=fun σ H R=>te σ H fun v H1=>∃ z,v=.str z∧R (Its z.cps.toList) H1
theorem pi_str (he:PE X e te):PI X tg e (iStr te):=by
 intro pins s σ H R I h
 refine thn (he pins s σ H _ I h) fun v s1 ⟨x,H1,I1,r1,q1⟩=>?_
 obtain ⟨z,e1,q⟩:=q1
 subst e1
 obtain ⟨t,rfl⟩:=r1
 have go:∀ (ty:String),(ty = "str_ascii_iterator"∨ty = "str_iterator")→PIE X pins σ tg R (.ref s1.heap.objs.size) { s1 with heap:=s1.heap.push { cls:=.type ty,data:=.fields #[.str z t,.int 0 0] } }:=fun ty hty=>by
  refine ⟨s1.heap.objs.size,[s1.heap.objs.size],_,_,H1,rfl,I1.kept (t':=s1.toks) fun b o e=>Heap.get?_push_of_some _ e,turn_str _ ty hty z t,⟨_,Heap.get?_push_size _ rfl,rfl,rfl⟩,fun b hb=>?_,q⟩
  rw [List.mem_singleton.mp hb]
  exact I1.fpOk (Nat.le_refl _) (I1.hok.fresh (Nat.le_refl _))
 cases ha:z.cps.all (· < 128) with
 | false=>exact wpAny_pyIter_wide ha (go _ (.inr rfl))
 | true=>exact wpAny_pyIter_ascii ha (go _ (.inl rfl))
end
theorem for_str {cs:List Nat} {g:TG} {tb:TS} {D:Ends} {σ:St} {H:Hp} (Pv:Nat→St→Hp→Prop) (h0:Pv 0 σ H)
  (hs:∀ i c σ H,cs[i]? = some c→Pv i σ H→g (.str ⟨#[c]⟩) σ H fun σ2 H2=>tb { D with nx:=Pv (i+1),ct:=Pv (i+1),bk:=D.nx } σ2 H2) (hd:∀ σ H,Pv cs.length σ H→D.nx σ H) :
  ∃ W:Nat→Nat→St→Hp→Prop,(∃ m,W 0 m σ H)∧∀ i m σ H,W i m σ H→
   ((Its cs).stop i H∧D.nx σ H)∨((Its cs).go i H∧∃ N:St→Hp→Prop,(∀ σ' H',N σ' H'→∃ m',m' < m∧W (i+1) m' σ' H')∧∀ x H',(Its cs).yld i H x H'→g x σ H' fun σ2 H2=>tb { D with nx:=N,ct:=N,bk:=D.nx } σ2 H2):=by
 refine ⟨fun i m σ H=>m=cs.length - i∧i≤cs.length∧Pv i σ H,⟨cs.length,by simp,Nat.zero_le _,h0⟩,?_⟩
 rintro i m σ H ⟨rfl,hi,p⟩
 by_cases hlt:i < cs.length
 ·refine .inr ⟨hlt,Pv (i+1),fun σ' H' p'=>⟨cs.length - (i+1),by omega,rfl,hlt,p'⟩,fun x H' y=>?_⟩
  obtain ⟨e,c,hc,hx⟩:=y
  subst e hx
  exact hs i c σ _ hc p
 ·have e:i=cs.length:=by omega
  subst e
  exact .inl ⟨Nat.le_refl _,hd σ H p⟩
def comp_str {cs:List Nat} {n:Nat} {fr:List Nat} {g:TG} {tt:TT} {te:TE} {σ:St} {H:Hp} {Q:VK} (Pv:Nat→List V→Hp→Prop) (hk:cs.length < sizeLine) (h0:Pv 0 [] H) (hlen:∀ i acc H,Pv i acc H→acc.length≤i)
  (hs:∀ i acc H2 c,cs[i]? = some c→Pv i acc H2→g (.str ⟨#[c]⟩) (inSt n fr σ) H2 fun σ4 H4=>tt σ4 H4 fun b H5=>if b=true then te σ4 H5 fun v H6=>Pv (i+1) (acc ++ [v]) H6 else Pv (i+1) acc H5)
  (hd:∀ acc H2,Pv cs.length acc H2→∀ l,H2 l=none→Q (.ref l) (upd H2 l (.lst acc))):=
 comp_gen (J:=Its cs) (n:=n) (fr:=fr) (g:=g) (tt:=tt) (te:=te) (σ:=σ) (Q:=Q) Pv hk h0 hlen (fun _ _ _ h _=>h) (fun _ _ _=>Nat.le_refl _) (fun i acc H2 x H3 hi p y=>by
  obtain ⟨e1,c,hc,hx⟩:=y
  subst e1 hx
  exact hs i acc _ c hc p) hd
section
variable {X:Cx}
theorem strsAre_of:∀ {ys:List Str} {us:List Value},Vals (ys.map V.str) us→StrsAre us ys
 | [],us,r=>by rw [List.map_nil] at r; cases r; exact .nil
 | y :: ys,us,r=>by
  rw [List.map_cons] at r
  cases r with
  | cons r1 r2=>
   obtain ⟨t,e⟩:=r1
   subst e
   exact .cons y t (strsAre_of r2)
theorem vals_strs:∀ {us:List Value} {ys:List Str},StrsAre us ys→Vals (ys.map V.str) us
 | _,_,.nil=>.nil
 | _,_,.cons y t h=>.cons ⟨t,rfl⟩ (vals_strs h)
inductive rJoinI (K:PySem.W.Frag) (x:V) (xs:List V) (H:Hp) (Q:VK):Prop
 | mk (z p ys:_) (h1:x=.str z) (h2:xs=[.ref p]) (h3:SqL K H p (ys.map V.str)) (h4:(ys.map (·.length)).sum+ys.length * z.length≤16777216) (h5:Q (.str (Txt.join z ys)) H):rJoinI K x xs H Q
def rJoin (K:PySem.W.Frag):V→List V→Hp→VK→Prop:=fun x xs H Q=>rJoinI K x xs H Q
theorem mt_join:MtR X "str.join" (rJoin X.K):=by
 intro pins s σ H x xs v us Q I rx rs h
 obtain ⟨z,p,ys,rfl,rfl,hq,hz,q⟩:=h
 obtain ⟨t,rfl⟩:=rx
 obtain ⟨u,rfl,ru⟩:=rs.one
 cases ru
 obtain ⟨its,r,pl,_⟩:=I.list hq
 exact join_list pl.isList (by simpa using strsAre_of r) hz fun t' k=>⟨.str _,H,I.tok _,⟨_,rfl⟩,q⟩
theorem join_nil_list (ys:List Str):(Txt.join (Str.ofString "") ys).cps.toList=(ys.map fun y=>y.cps.toList).flatten:=by
  show (Builtin.Str.glued (Str.ofString "") ys).cps.toList=_
  rw [StrLaws.glued_eq_join]
  induction ys with
  | nil=>rfl
  | cons y r ih=>
   cases r with
   | nil=>simp [Str.join]
   | cons z r=>
    have e:Str.join (Str.ofString "") (y :: z :: r)=y ++ Str.ofString "" ++ Str.join (Str.ofString "") (z :: r):=rfl
    rw [e]
    have h0:(Str.ofString "").cps = #[]:=by decide +kernel
    show ((y.cps ++ (Str.ofString "").cps) ++ (Str.join (Str.ofString "") (z :: r)).cps).toList=_
    rw [h0,Array.append_empty,Array.toList_append,ih,List.map_cons,List.map_cons,List.flatten_cons]
    rfl
inductive rSlSI (x:V) (lo:Option Int) (hi:Option Int) (H:Hp) (Q:VK):Prop
 | mk (z:_) (h1:x=.str z) (h2:z.length≤sizeLine) (h3:Q (.str (Txt.slice z lo hi)) H):rSlSI x lo hi H Q
def rSlS:V→Option Int→Option Int→Hp→VK→Prop:=fun x lo hi H Q=>rSlSI x lo hi H Q
theorem sl_str:SlR X rSlS:=by
 intro pins s σ H x v vl vu lo hi sl Q I rx hs pl pu h
 obtain ⟨z,rfl,hz,q⟩:=h
 obtain ⟨t,rfl⟩:=rx
 refine ⟨"str",_,F.slot_str_getitem.lookup,typeIs_str _ _ _,?_⟩
 have fin:∀ t' k,EP X pins σ Q (.str (Txt.slice z lo hi) t') { s with toks:=k }:=fun t' k=>⟨.str _,H,I.tok _,⟨_,rfl⟩,q⟩
 have hle:(Txt.slice z lo hi).length≤sizeLine:=Nat.le_trans (Txt.slice_le z _ _) hz
 cases pl with
 | none=>
  cases pu with
  | none=>exact wpAny_getItem_str_slice (l:=none) (u:=none) (st:=none) hs rfl (post_val_or_str ⟨hle,fin⟩)
  | int j uj=>exact wpAny_getItem_str_slice (l:=none) (u:=some (j,uj)) (st:=none) hs rfl (post_val_or_str ⟨hle,fin⟩)
 | int i ui=>
  cases pu with
  | none=>exact wpAny_getItem_str_slice (l:=some (i,ui)) (u:=none) (st:=none) hs rfl (post_val_or_str ⟨hle,fin⟩)
  | int j uj=>exact wpAny_getItem_str_slice (l:=some (i,ui)) (u:=some (j,uj)) (st:=none) hs rfl (post_val_or_str ⟨hle,fin⟩)
def repS (z:Str) (n:Nat):Str:=⟨(List.replicate n z.cps.toList).flatten.toArray⟩
theorem foldl_arr (a:Array Nat):∀ (k:Nat) (acc:List Nat),List.foldl (fun x1 x2=>x1 ++ x2) acc.toArray (List.replicate k a)=(acc ++ (List.replicate k a.toList).flatten).toArray
 | 0,acc=>by simp
 | k+1,acc=>by
  rw [List.replicate_succ,List.foldl_cons]
  have e:acc.toArray ++ a=(acc ++ a.toList).toArray:=by simp
  rw [e,foldl_arr a k,List.replicate_succ,List.flatten_cons,List.append_assoc]
theorem op_mul_str:OpR X (binaryOp .Mult) (fun x y H Q=>∃ z n,x=.str z∧y=.int n∧0≤n∧n≤1000∧z.length≤1000∧Q (.str (repS z n.toNat)) H):=by
 intro pins s σ H x y v u Q I rx ry h
 obtain ⟨z,n,rfl,rfl,h0,h1,hz,q⟩:=h
 obtain ⟨t,rfl⟩:=rx
 obtain ⟨t',rfl⟩:=ry
 have hl:z.length * n.toNat≤1000 * 1000:=Nat.mul_le_mul hz (by omega)
 have hline:sizeLine=16777216:=sizeLine_eq
 have hlong:Builtin.Str.tooLong (z.length * n.toNat)=false:=by
  unfold Builtin.Str.tooLong
  exact decide_eq_false (by omega)
 refine PySem.P.mul_str (by
   rw [decide_eq_false (by omega),decide_eq_false (by omega)]; rfl) (fun hn _=>?_) (fun _ _=>hlong) ?_
 ·have h2:(2 ^ 63 - 1:Int) / n ≥ 1000:=by
   refine Int.le_ediv_of_mul_le (by omega) ?_
   have:(1000:Int) * n≤1000 * 1000:=Int.mul_le_mul_of_nonneg_left h1 (by omega)
   omega
  omega
 ·have rep0:∀ k,(⟨(List.replicate k z.cps).foldl (· ++ ·) #[]⟩:Str)=repS z k:=fun k=>by
   have:=foldl_arr z.cps k []
   rw [List.nil_append] at this
   exact congrArg Str.mk this
  have fin:∀ (y:Str),y=repS z n.toNat→∀ t2 k,EP X pins σ Q (.str y t2) { s with toks:=k }:=fun y e t2 k=>by
   subst e
   exact ⟨.str _,H,I.tok _,⟨_,rfl⟩,q⟩
  by_cases hn:n < 1
  ·rw [if_pos hn]
   refine ⟨by decide,fin _ ?_ _ _⟩
   have:n.toNat=0:=by omega
   rw [this]
   rfl
  ·rw [if_neg hn]
   by_cases hb:(n==1 || z.length==0)=true
   ·rw [if_pos hb]
    refine fin z ?_ t s.toks
    rcases Bool.or_eq_true_iff.mp hb with e | e
    ·have:n=1:=by simpa using e
     subst this
     show z=⟨([z.cps.toList].flatten).toArray⟩
     simp
    ·have e':z.cps.size=0:=by simpa [Str.length] using e
     have e2:z.cps = #[]:=Array.eq_empty_of_size_eq_zero e'
     unfold repS
     obtain ⟨c⟩:=z
     subst e2
     simp
   ·rw [if_neg hb]
    refine ⟨?_,?_⟩
    ·rw [rep0]
     show ((List.replicate n.toNat z.cps.toList).flatten.toArray).size≤sizeLine
     rw [List.size_toArray,len_rep,Array.length_toList]
     have:n.toNat * z.cps.size=z.length * n.toNat:=Nat.mul_comm _ _
     omega
    ·exact fin _ (rep0 _) _ _
inductive rSortSI (K:PySem.W.Frag) (xs:List V) (H:Hp) (Q:VK):Prop
 | mk (p ys:_) (h1:xs=[.ref p]) (h2:SqL K H p (ys.map V.str)) (h3:ys.length < 64) (h4:∀ ys' l,ys'.Perm ys→sortedS ys'=true→H l=none→Q (.ref l) (upd H l (.lst (ys'.map V.str)))):rSortSI K xs H Q
def rSortS (K:PySem.W.Frag):List V→Hp→VK→Prop:=fun xs H Q=>rSortSI K xs H Q
theorem call_sorted_str:CallR X (.builtin "sorted") (rSortS X.K):=by
 intro pins s σ H xs us Q I r h
 obtain ⟨p,ys,rfl,hq,h64,q⟩:=h
 obtain ⟨u,rfl,ru⟩:=vals1 r
 cases ru
 obtain ⟨its,r',pl,hz⟩:=I.list hq
 have hlen:=r'.length
 rw [List.length_map] at hlen hz
 refine sorted_strs pl.isList (strsAre_of r') (by omega) fun out ss' a1 a2 a3=>?_
 obtain ⟨e,he⟩:=sortedAll_at s.heap its out
 have hn:H (s.heap.objs.size+1)=none:=I.hok.fresh (Nat.le_succ _)
 refine ⟨.ref (s.heap.objs.size+1),upd H (s.heap.objs.size+1) (.lst (ss'.map V.str)),I.laid (t':=s.toks) (fun _ _=>sortedAll_old) (Nat.le_succ _) ⟨?_,out.toList,e,vals_strs a1,?_⟩,rfl,q ss' _ a2 a3 hn⟩
 ·rw [List.length_map,a2.length_eq]
  exact hz
 ·simpa [seqObj] using he
def oneS (c:Nat):V:=.str ⟨#[c]⟩
theorem vals_signs {x:Str}:∀ (us:List Value) (k:Nat),(∀ i v,us[i]? = some v→SignAt x (k+i) v)→us.length+k=x.cps.toList.length→Vals ((x.cps.toList.drop k).map oneS) us
 | [],k,_,hl=>by
  rw [List.drop_eq_nil_of_le (by simpa using Nat.le_of_eq hl.symm)]
  exact .nil
 | u :: us,k,h,hl=>by
  have hk:k < x.cps.toList.length:=by
   simp only [List.length_cons] at hl
   omega
  rw [List.drop_eq_getElem_cons hk,List.map_cons]
  refine .cons ?_ (vals_signs us (k+1) (fun i v e=>?_) (by simp only [List.length_cons] at hl; omega))
  ·obtain ⟨c,t,hc,rfl⟩:=h 0 u rfl
   have hc':x.cps.toList[k]? = some c:=by
    rw [Array.getElem?_toList]
    exact hc
   rw [List.getElem?_eq_getElem hk] at hc'
   rw [Option.some.inj hc']
   exact ⟨t,rfl⟩
  ·have:=h (i+1) v e
   rw [show k+1+i=k+(i+1) by omega]
   exact this
theorem call_list_text (hc:X.calm=true):CallR X (.type "list") (fun xs H Q=>∃ z,xs=[.str z]∧z.length≤sizeLine∧∀ l,H l=none→Q (.ref l) (upd H l (.lst (z.cps.toList.map oneS)))):=by
 intro pins s σ H xs us Q I r h
 obtain ⟨z,rfl,hz,q⟩:=h
 obtain ⟨u,rfl,t,rfl⟩:=vals1 r
 refine call_list_str (hn:=hz) (I.ok.hd hc) z t fun h' tk acc c kp e it=>?_
 refine ⟨.ref s.heap.objs.size,_,I.laid kp (Nat.le_refl _) (show ObjOk X.prog X.w _ h' _ (.lst (z.cps.toList.map oneS)) from ⟨by rw [List.length_map]; simpa [Str.length] using hz,acc.toList,c,?_,by simpa using e⟩),rfl,q _ (I.hok.fresh (Nat.le_refl _))⟩
 have e1:=vals_signs (x:=z) acc.toList 0 (fun i v e=>by rw [Nat.zero_add]; exact it.2 i v (by rw [← Array.getElem?_toList]; exact e)) (by rw [Array.length_toList,it.1,Nat.add_zero,Array.length_toList])
 rw [List.drop_zero] at e1
 exact e1
inductive rIndexI (x:V) (xs:List V) (H:Hp) (Q:VK):Prop
 | mk (z y:_) (h1:x=.str z) (h2:xs=[.str y]) (h3:0≤Txt.find z y) (h4:Q (.int (Txt.find z y)) H):rIndexI x xs H Q
def rIndex:V→List V→Hp→VK→Prop:=fun x xs H Q=>rIndexI x xs H Q
theorem mt_index (hc:X.calm=true):MtR X "str.index" rIndex:=by
 intro pins s σ H x xs v us Q I rx rs h
 obtain ⟨z,y,rfl,rfl,h0,q⟩:=h
 obtain ⟨t,rfl⟩:=rx
 obtain ⟨u1,rfl,⟨t1,rfl⟩⟩:=rs.one
 exact index_or (I.ok.hd hc) (fun e=>by omega) fun _ _=>⟨.int _,H,I.tok _,⟨_,rfl⟩,q⟩
end
end L2
namespace L2
open PySem PySem.Spec PyProof.Rows
inductive tCutI (t:TS) (u:TS) (D:Ends) (σ:St) (H:Hp):Prop
 | mk (P:St→Hp→Prop) (h1:t { D with nx:=P } σ H) (h2:∀ σ' H',P σ' H'→u D σ' H'):tCutI t u D σ H
def tCut (t u:TS):TS:=fun D σ H=>tCutI t u D σ H
theorem pss_cut {X:Cx} {st:Stmt} {rest:List Stmt} {t u:TS} (h1:PS X st t) (h2:PSs X rest u):PSs X (st :: rest) (tCut t u):=by
 intro pins s σ H D I h
 obtain ⟨P,q,k⟩:=h
 have z:PSs X (st :: rest) (tSeq (fun D' σ' H'=>D'=D∧σ'=σ∧H'=H) (fun _ _ _=>True))→True:=fun _=>True.intro
 exact pss_cons (t:=fun D' σ' H'=>t { D' with nx:=P } σ' H'∧∀ σ2 H2,P σ2 H2→D'.nx σ2 H2) (u:=u) (fun pins s σ H D I h=>by
  refine thn (h1 pins s σ H _ I h.1) fun f s' r=>?_
  cases f with
  | next=>
   obtain ⟨σ',H',I',p⟩:=r
   exact ⟨σ',H',I',h.2 σ' H' p⟩
  | brk=>exact r
  | cont=>exact r
  | ret v=>exact r) h2 pins s σ H D I ⟨q,k⟩
structure Cal (P:Program) (w:World) (K:PySem.W.Frag) (mg:Str→Option Value) (base:Heap) (x:Str) (k:Nat) (ps:List Str) (sp:Sp) where
 f:Addr
 fd:FuncData
 ok:FnOk P w K mg base CX0 k f fd ps sp
 at_:mg x=some (.ref f)
 kp:PySem.W.keepIn K (.ref f)=true
 b:Binds K fd ps []
theorem pe_c {X:Cx} {x:Str} {k:Nat} {ps:List Str} {sp:Sp} {p pos:Pos} {e:Expr} {es:List Expr} {t:TA} (C:Cal X.prog X.w X.K X.mg X.base x k ps sp) (hr:Room k X.A) (ha:PA X (e :: es) t) (hg:Gl X x:=by rfl)
  (hdb:(x==("__debug__" : Str))=false:=by decide) (he:starEach (e :: es) X.env=(false,eval e X.env) :: starEach es X.env:=by rfl) (hpl:(backTo pos (starEach es X.env)).any (·.1)=false:=by rfl) :
  PE X (.Call (.Name x p) (e :: es) [] pos) (tCall sp [] E0 t):=pe_call C.ok hr hg C.at_ C.kp C.b .nil pass0 ha hdb he hpl
section
variable {X:Cx}
end
theorem lt_one (a b:Nat):decide (([a]:List Nat) < [b])=decide (a < b):=by
 rw [Bool.eq_iff_iff,decide_eq_true_eq,decide_eq_true_eq]
 constructor
 ·intro h
  cases h with
  | rel h=>exact h
  | cons h=>cases h
 ·intro h
  exact List.Lex.rel h
section
variable {X:Cx} {K:PySem.W.Frag}
inductive rLenQI (K:PySem.W.Frag) (xs:List V) (H:Hp) (Q:VK):Prop
 | mk (p ys:_) (h1:xs=[V.ref p]) (h2:(SqL K H p ys∨SqT K H p ys)) (h3:Q (.int ys.length) H):rLenQI K xs H Q
def rLenQ (K:PySem.W.Frag):List V→Hp→VK→Prop:=fun xs H Q=>rLenQI K xs H Q
inductive rListQI (K:PySem.W.Frag) (xs:List V) (H:Hp) (Q:VK):Prop
 | mk (p ys:_) (h1:xs=[V.ref p]) (h2:(SqL K H p ys∨SqT K H p ys)) (h3:∀ l,H l=none→Q (.ref l) (upd H l (.lst ys))):rListQI K xs H Q
def rListQ (K:PySem.W.Frag):List V→Hp→VK→Prop:=fun xs H Q=>rListQI K xs H Q
inductive rTupQI (K:PySem.W.Frag) (xs:List V) (H:Hp) (Q:VK):Prop
 | mk (p ys:_) (h1:xs=[V.ref p]) (h2:((SqL K H p ys∧∀ l,H l=none→Q (.ref l) (upd H l (.tup ys)))∨(SqT K H p ys∧Q (.ref p) H))):rTupQI K xs H Q
def rTupQ (K:PySem.W.Frag):List V→Hp→VK→Prop:=fun xs H Q=>rTupQI K xs H Q
theorem CallR.imp {X:Cx} {f:Value} {r r':List V→Hp→VK→Prop} (h:CallR X f r) (hi:∀ xs H Q,r' xs H Q→r xs H Q):CallR X f r':=fun pins s σ H xs us Q I rv q=>h pins s σ H xs us Q I rv (hi xs H Q q)
theorem ix_listK (hK:X.K=K:=by rfl):IxR X (rIxL K):=by subst hK; exact ix_list
theorem ix_tupK (hK:X.K=K:=by rfl):IxR X (rIxT K):=by subst hK; exact ix_tup
theorem call_lenK (hK:X.K=K:=by rfl):CallR X (.builtin "len") (rLenQ K):=by subst hK; exact call_len_seq.imp fun _ _ _ ⟨p,ys,e,h,q⟩=>⟨p,ys,e,h,q⟩
theorem call_listK (hK:X.K=K:=by rfl):CallR X (.type "list") (rListQ K):=by subst hK; exact call_list_of.imp fun _ _ _ ⟨p,ys,e,h,q⟩=>⟨p,ys,e,h,q⟩
theorem call_tupK (hK:X.K=K:=by rfl):CallR X (.type "tuple") (rTupQ K):=by subst hK; exact call_tuple_of.imp fun _ _ _ ⟨p,ys,e,h⟩=>⟨p,ys,e,h⟩
theorem call_sortK (hK:X.K=K:=by rfl):CallR X (.builtin "sorted") (rSortS K):=by subst hK; exact call_sorted_str
theorem op_inK (hK:X.K=K:=by rfl):OpR X (compareOp .In) (rIn K false):=by subst hK; exact op_in_seq
theorem op_notInK (hK:X.K=K:=by rfl):OpR X (compareOp .NotIn) (rIn K true):=by subst hK; exact op_notIn_seq
theorem op_catTK (hK:X.K=K:=by rfl):OpR X (binaryOp .Add) (rCatT K):=by subst hK; exact op_catT
theorem sl_tupK (hK:X.K=K:=by rfl):SlR X (rSlT K):=by subst hK; exact sl_tup
theorem mt_joinK (hK:X.K=K:=by rfl):MtR X "str.join" (rJoin K):=by subst hK; exact mt_join
theorem pi_listK {tg l:Expr} {tl:TE} (hl:PE X l tl) (hK:X.K=K:=by rfl):PI X tg l (iList K tl):=by subst hK; exact pi_list hl
theorem pi_tupK {tg l:Expr} {tl:TE} (hl:PE X l tl) (hK:X.K=K:=by rfl):PI X tg l (iTup K tl):=by subst hK; exact pi_tup hl
theorem pg_tupK {es:List Expr} {k:Nat} {t:TGs} {n:Nat} {pos:Pos} (hc:X.calm=true) (h:PGs X es t) (hK:X.K=K:=by rfl)
  (hn:(assignEach es X.env).length=n:=by rfl) (hst:(assignEach es X.env).findIdx? (·.1)=none:=by rfl):PG X (.Tuple es k pos) (gTup K n t):=by subst hK; exact pg_tup hc h hn hst
theorem pe_bmK {o e:Expr} {es:List Expr} {to:TE} {t:TA} {name:Str} {apos cpos:Pos} {T id:String} {r:V→List V→Hp→VK→Prop} (pa:PlainAttrs T) (slot:Slot T name id) (hty:typeOf (.builtin id)=pure (.type "method_descriptor")) (hm:MtR X id r) (ho:PE X o to)
  (ha:PA X (e :: es) t) (hK:X.K=K:=by rfl) (hbase:attributeBase o name X.env (eval o X.env)=eval o X.env:=by rfl)
  (hfew:((backTo cpos (starEach (e :: es) X.env)).all (fun x=>!x.1) && (backToKw cpos (keywordEach [] X.env)).all (fun x=>x.1.isSome)
   && decide ((e :: es).length+([]:List Keyword).length+(if ([]:List Keyword).isEmpty then 0 else 1) < 30))=true:=by rfl)
  (hline:(apos.endLine==cpos.line)=true:=by rfl) (hs:starEach (e :: es) X.env=(false,eval e X.env) :: starEach es X.env:=by rfl) (hplain:(backTo cpos (starEach es X.env)).any (·.1)=false:=by rfl) :
  PE X (.Call (.Attribute o name apos) (e :: es) [] cpos) (tBM K T r to t):=by subst hK; exact pe_bm pa slot hty hm ho ha hbase hfew hline hs hplain
end
theorem slice_ix (lo hi:Option Int) (n:Nat):Builtin.Str.strSliceIndices lo hi 1 n=(List.range (HT.sIx n n hi - HT.sIx n 0 lo)).map (HT.sIx n 0 lo + ·):=by
 obtain ⟨h1,h2,h3⟩:=slice_bounds lo hi n
 have e:Builtin.Str.strSliceIndices lo hi 1 n=sliceRange (sliceBounds lo hi none n).1 (sliceBounds lo hi none n).2.1 (sliceBounds lo hi none n).2.2:=by
  cases lo <;> cases hi <;> rfl
 rw [e,h1,h2,h3,sliceRange_one]
theorem slice_list (z:Str) (lo hi:Option Int):(Txt.slice z lo hi).cps.toList=(z.cps.toList.drop (HT.sIx z.length 0 lo)).take (HT.sIx z.length z.length hi - HT.sIx z.length 0 lo):=by
 unfold Txt.slice
 rw [slice_ix]
 by_cases hc:((1:Int)==1 && ((List.range (HT.sIx z.length z.length hi - HT.sIx z.length 0 lo)).map (HT.sIx z.length 0 lo + ·)).length==z.length)=true
 ·rw [if_pos hc]
  simp only [Bool.and_eq_true,List.length_map,List.length_range,beq_iff_eq,true_and] at hc
  have h1:=HT.sIx_le z.length 0 (Nat.zero_le _) lo
  have h2:=HT.sIx_le z.length z.length (Nat.le_refl _) hi
  have hl:z.cps.toList.length=z.length:=by simp [Str.length]
  by_cases h0:z.length=0
  ·have:z.cps.toList=[]:=List.eq_nil_of_length_eq_zero (by omega)
   rw [this]
   simp
  ·have e0:HT.sIx z.length 0 lo=0:=by omega
   rw [e0,List.drop_zero,List.take_of_length_le (by omega)]
 ·rw [if_neg hc]
  rw [pick_run]
theorem bt_len:bootBuiltins "len" = some (.builtin "len"):=by decide +kernel
theorem bt_sorted:bootBuiltins "sorted" = some (.builtin "sorted"):=by decide +kernel
theorem bt_list:bootBuiltins "list" = some (.type "list"):=by decide +kernel
theorem bt_tuple:bootBuiltins "tuple" = some (.type "tuple"):=by decide +kernel
theorem bt_int:bootBuiltins "int" = some (.type "int"):=by decide +kernel
theorem bt_enumerate:bootBuiltins "enumerate" = some (.type "enumerate"):=by decide +kernel
theorem bt_set:bootBuiltins "set" = some (.type "set"):=by decide +kernel
theorem cyes {i:Nat} {x:V} {σ:St} {H:Hp} {te:TE} {Nt:VK} {Nf:Hp→Prop} (h:te (σ.set i (some x)) H Nt):gName i x σ H fun σ4 H4=>tYes σ4 H4 fun b H5=>if b=true then te σ4 H5 Nt else Nf H5:=by
 show if true=true then te (σ.set i (some x)) H Nt else Nf H
 exact iteT h
theorem same_new {H:Hp} {p:Addr} (h:H p=none) (o:HO):Same H (upd H p o):=fun b u q=>by rw [upd_ne (ne_of_none q h)]; exact q
theorem line_le {n:Nat} (h:n≤1000):n≤sizeLine:=Nat.le_of_lt (small1000 h)
def FlowXs (sc:Addr) (xs:List V):Prop:=∃ a b c d:Int,xs=[.ref sc,.int a,.int b,.int c,.int d]∧0≤a∧0≤b∧0≤c∧c < 2147483647∧0≤d
structure FlowAt (H:Hp) (p sc:Addr):Prop where
 here:∃ xs,H p=some (.lst xs)∧FlowXs sc xs
 cells:∃ ns:List Int,H sc=some (.lst (ns.map V.int))
theorem FlowAt.ne {H:Hp} {p sc:Addr} (F:FlowAt H p sc):sc≠p:=by
 obtain ⟨xs,h1,a,b,c,d,e,_⟩:=F.here
 obtain ⟨ns,h2⟩:=F.cells
 refine ne_of h2 h1 fun z=>?_
 have z':ns.map V.int=xs:=by injection z
 rw [e] at z'
 cases ns with
 | nil=>cases z'
 | cons n r=>
  rw [List.map_cons] at z'
  injection z' with z1
  cases z1
theorem FlowAt.go {H:Hp} {p sc:Addr} {xs:List V} (F:FlowAt H p sc) (h:FlowXs sc xs):FlowAt (upd H p (.lst xs)) p sc:=by
 obtain ⟨ns,h2⟩:=F.cells
 exact ⟨⟨xs,upd_same,h⟩,ns,by rw [upd_ne F.ne]; exact h2⟩
def Drew (H H':Hp) (p:Addr):Prop:=∀ b o,H b=some o→b≠p→H' b=some o
theorem FlowAt.same {H H':Hp} {p sc:Addr} (F:FlowAt H p sc) (e:Same H H'):FlowAt H' p sc:=by
 obtain ⟨xs,h1,h2⟩:=F.here
 obtain ⟨ns,h3⟩:=F.cells
 exact ⟨⟨xs,e _ _ h1,h2⟩,ns,e _ _ h3⟩
theorem Drew.refl (H:Hp) (p:Addr):Drew H H p:=fun _ _ h _=>h
theorem Drew.trans {H H1 H2:Hp} {p:Addr} (a:Drew H H1 p) (b:Drew H1 H2 p):Drew H H2 p:=fun c o h n=>b c o (a c o h n) n
theorem Drew.upd {H:Hp} {p:Addr} (o:HO):Drew H (upd H p o) p:=fun b u h n=>by rw [upd_ne n]; exact h
theorem Drew.same {H H':Hp} {p:Addr} (h:Same H H'):Drew H H' p:=fun b o e _=>h b o e
inductive spFlowI (K:PySem.W.Frag) (vs:List V) (H:Hp) (Q:VK):Prop
 | mk (a:Addr) (ns:List Int) (h1:vs=[.ref a]) (h2:SqL K H a (ns.map V.int)) (h3:∀ p sc H',H p=none→Same H H'→FlowAt H' p sc→Q (.ref p) H'):spFlowI K vs H Q
def spFlow (K:PySem.W.Frag):Sp:=fun vs H Q u3_=>spFlowI K vs H Q
inductive spPickI (vs:List V) (H:Hp) (Q:VK):Prop
 | mk (p sc:Addr) (m:Int) (h1:vs=[.ref p,.int m]) (h2:0 < m) (h3:m < 1073741824) (h4:FlowAt H p sc) (h5:∀ r xs,0≤r→r < m→FlowXs sc xs→Q (.int r) (upd H p (.lst xs))):spPickI vs H Q
def spPick:Sp:=fun vs H Q u3_=>spPickI vs H Q
def IsLetters (z:Str) (n:Nat):Prop:=z.cps.toList.length=n∧z.cps.toList.Pairwise (· < ·)∧∀ c∈z.cps.toList,97≤c∧c≤122
inductive spLettersI (vs:List V) (H:Hp) (Q:VK):Prop
 | mk (p sc:Addr) (m:Int) (h1:vs=[.ref p,.int m]) (h2:0≤m) (h3:m≤26) (h4:FlowAt H p sc) (h5:∀ z H',IsLetters z m.toNat→Drew H H' p→FlowAt H' p sc→Q (.str z) H'):spLettersI vs H Q
def spLetters:Sp:=fun vs H Q u3_=>spLettersI vs H Q
inductive spWordI (vs:List V) (H:Hp) (Q:VK):Prop
 | mk (p sc:Addr) (l:Str) (m:Int) (h1:vs=[.ref p,.str l,.int m]) (h2:0 < l.length) (h3:l.length≤1000) (h4:0≤m) (h5:m≤100) (h6:FlowAt H p sc) (h7:∀ z H',(z.cps.toList.length:Int)≤m→(∀ c∈z.cps.toList,c∈l.cps.toList)→Drew H H' p→FlowAt H' p sc→Q (.str z) H'):spWordI vs H Q
def spWord:Sp:=fun vs H Q u3_=>spWordI vs H Q
inductive Dt where
 | non | bl (b:Bool) | int (i:Int) | str (x:Str) | lst (ds:List Dt) | tup (ds:List Dt)
def Dt.dep:Dt→Nat
 | .lst ds=>(ds.map Dt.dep).foldr max 0+1
 | .tup ds=>(ds.map Dt.dep).foldr max 0+1
 | _=>0
inductive Den (H:Hp):V→Dt→Prop where
 | non:Den H .non .non
 | bl (b:Bool):Den H (.bl b) (.bl b)
 | int (i:Int):Den H (.int i) (.int i)
 | str (x:Str):Den H (.str x) (.str x)
 | lst {a:Addr} {xs:List V} {ds:List Dt} (h:H a=some (.lst xs)) (hz:xs.length≤1000000) (hl:xs.length=ds.length) (hd:∀ (i:Nat) x d,xs[i]? = some x→ds[i]? = some d→Den H x d):Den H (.ref a) (.lst ds)
 | tup {a:Addr} {xs:List V} {ds:List Dt} (h:H a=some (.tup xs)) (hz:xs.length≤1000000) (hl:xs.length=ds.length) (hd:∀ (i:Nat) x d,xs[i]? = some x→ds[i]? = some d→Den H x d):Den H (.ref a) (.tup ds)
end L2
namespace L2
open PySem PySem.Spec PyProof.Rows
section
variable {X:Cx} {tg:Expr}
end
def tTru (K:PySem.W.Frag) (ta:TE):TT:=fun σ H Q=>ta σ H fun x H'=>∃ k,TruV K x H' k∧Q k H'
theorem pt_truthK {X:Cx} {K:PySem.W.Frag} {a:Expr} {ta:TE} (ha:PE X a ta) (he:∀ whole,isTrue a X.env whole=(do let v ← whole; standAt a.pos; holding [v] (truthy v))) (hK:X.K=K:=by rfl):PT X a (tTru K ta):=by
 subst hK
 exact pt_truth ha he
end L2
namespace L2
open PySem PySem.Spec PyProof.Rows
section
variable {P:Program} {w:World} {A:Around} {E:Value→Shared→Prop} {s:Shared}
set_option maxHeartbeats 3200000 in
end
end L2
namespace L2
open PySem PySem.Spec PyProof.Rows
section
variable {P:Program} {w:World} {A:Around} {E:Value→Shared→Prop} {s:Shared}
end
end L2
namespace L2
open PySem PySem.Spec PyProof.Rows
section
variable {P:Program} {w:World} {A:Around} {E:Value→Shared→Prop} {s:Shared}
end
def signs (z:Str):List Str:=z.cps.toList.map fun c=>⟨#[c]⟩
section
variable {X:Cx}
end
end L2
namespace L2
open PySem PySem.Spec PyProof.Rows
def tDispT (tk tv:TE):TE:=fun σ H Q=>∀ p,H p=none→tPairs [(tk,tv)] σ (upd H p (.dT [])) fun ps H2=>∃ x y,ps=[(x,y)]∧H2 p=some (.dT [])∧∃ b ks,x=.ref b∧H2 b=some (.tup (ks.map kV))∧Q (.ref p) (upd H2 p (.dT [(ks,y)]))
theorem pe_dispT {X:Cx} {pos:Pos} {k v:Expr} {tk tv:TE} (hu:X.A.units+1 < cLine) (hk:PE X k tk) (hv:PE X v tv):PE X (.Dict [some k] [v] pos) (tDispT tk tv):=by
 intro pins s σ H Q I q
 have hn:=I.hok.fresh (Nat.le_refl s.heap.objs.size)
 have I1:=I.laid (a:=s.heap.objs.size) (o:=.dT []) (h':=s.heap.push { cls:=.type "dict",data:=.dict #[] }) (t':=s.toks) (fun _ _ q=>Heap.get?_push_of_some _ q) (Nat.le_refl _) (dt_empty s.heap I.big)
 have hall:([some k]:List (Option Expr)).all (·.isSome)=true:=rfl
 have hn1:=pairTrees_length [some k] [v] X.env pos hall rfl
 rw [arm_eval_Dict,zip_pairTrees [some k] [v] X.env pos hall rfl,dictDisplay_pairs _ (fun he=>by rw [he] at hn1; cases hn1) (by rw [hn1]; show 1 < 17; decide)]
 refine wpAny_bind (wpAny_standAt (wpAny_bind ?_))
 unfold subDict
 refine wpAny_bind (wpAny_alloc (wpAny_bind (wpAny_holding ?_)))
 rw [if_pos (by rw [hn1]; show 1≤15; decide)]
 refine wpAny_bind (wpAny_mono (pps_cons hk hv pps_nil pins _ σ _ _ I1 (q _ hn)) (fun vs s2 h2=>?_) fun _ _ e=>e)
 obtain ⟨ps,H2,I2,rel,x,y,rfl,e,b,ks,rfl,eb,q2⟩:=h2
 cases rel with
 | @cons a c as cs hac tl=>
  cases tl
  obtain ⟨u,r⟩:=c
  cases (show u=Value.ref b from hac.1)
  refine wpAny_holding (wpAny_bind ?_)
  rw [List.forIn_cons]
  obtain ⟨z,hd,xs,rl,dd⟩:=dt_of I2.hok e
  cases rl
  refine wpAny_bind (wpAny_bind (wpAny_dictSet_heap (show X.A.units < cLine by omega) (key_of I2.hok eb) dd fun h' dd' hs=>wpAny_pure ?_))
  refine wpAny_pure (wpAny_pure (wpAny_pure (wpAny_pure ?_)))
  obtain ⟨qo,es,ep,hq,h2,h3,h4,_,h5⟩:=dd'
  refine ⟨.ref s.heap.objs.size,_,d_write (ob:=.dT [(ks,y)]) I2 (by rw [e]; exact True.intro) hs ⟨qo,hq⟩ ⟨by show 1≤sizeLine; decide,hd,_,.cons ⟨rfl,?_,hac.2⟩ .nil,qo,es,ep,hq,h2,h3,h4,h5⟩,rfl,q2⟩
  rw [upd_ne (ne_of eb e (fun z=>nomatch z))]
  exact eb
end L2
namespace L2
open PySem PySem.Spec PyProof.Rows
section
variable {X:Cx} {K:PySem.W.Frag}
end
end L2
namespace L2
open PySem PySem.Spec PyProof.Rows
theorem ps_dead {X:Cx} {st:Stmt}:PS X st (fun _ _ _=>False):=fun _ _ _ _ _ _ h=>h.elim
theorem pi_or {X:Cx} {tg it:Expr} {w1 w2:TI} (h1:PI X tg it w1) (h2:PI X tg it w2):PI X tg it (fun σ H R=>w1 σ H R∨w2 σ H R):=fun pins s σ H R I h=>by
 rcases h with h | h
 ·exact h1 pins s σ H R I h
 ·exact h2 pins s σ H R I h
section
variable {X:Cx}
end
def jl (c:Nat):List (List Nat)→List Nat
 | []=>[]
 | [x]=>x
 | x :: y :: r=>x ++ c :: jl c (y :: r)
end L2
namespace L2
open PySem PySem.Spec PyProof.Rows
section
variable {X:Cx} {K:PySem.W.Frag}
end
section
open PySem.SeqAt
open PySem.AutoSeq1 (wpAny_loadPart')
open PySem.MeetsSeq PySem.MeetsSeq2 PySem.MeetsSeq3
end
section
variable {X:Cx} {K:PySem.W.Frag}
end
end L2
namespace L2
open PySem PySem.Spec PyProof.Rows
section
open PySem.W (KasT kas_asc kas_count kas_cmp kas_st kas_item)
end
section
variable {prog:Program} {w:World} {A:Around} {E:Value→Shared→Prop} {s:Shared}
end
abbrev lo (ks:List Value) (e:Nat):Obj:={ cls:=.type "list",data:=.seq ks.toArray e }
section
variable {X:Cx} {pins:List (Addr × Obj)} {σ:St} {H:Hp} {s:Shared}
end
section
variable {X:Cx} {pins:List (Addr × Obj)} {σ:St} {H:Hp} {s:Shared} {x:Str} {k:Nat} {ps:List Str} {sp:Sp} {ok:V→Prop} {kf:V→List V}
end
end L2
namespace L2
open PySem PySem.Spec PyProof.Rows
section
open PySem.W (KasT kas_asc kas_desc kas_tail3 kas_descPart kas_count kas_place kas_bin kas_sort kas_rev)
variable {n:Nat} {lt:Nat→Nat→Bool} {p:Array Nat}
end
end L2
namespace L2
open PySem PySem.Spec PyProof.Rows
section
open PySem.W (kas_count kas_ask kas_item kas_st kas_asc)
end
section
variable {X:Cx} {pins:List (Addr × Obj)} {σ:St} {H:Hp} {s:Shared} {x:Str} {k:Nat} {ps:List Str} {sp:Sp}
end
end L2
namespace L2
open PySem PySem.Spec PyProof.Rows
section
variable {P:Program} {w:World} {A:Around} {E:Value→Shared→Prop} {s:Shared}
end
section
variable {X:Cx} {pins:List (Addr × Obj)} {σ:St} {H:Hp} {s:Shared} {x:Str} {k:Nat} {ps:List Str} {sp:Sp}
end
end L2
namespace L2
open PySem PySem.Spec PyProof.Rows
section
variable {prog:Program} {w:World} {A:Around} {E:Value→Shared→Prop} {s:Shared} {K:PySem.W.Frag} {C:Addr}
end
section
variable {prog:Program} {w:World} {A:Around} {E:Value→Shared→Prop} {s:Shared} {K:PySem.W.Frag} {x C:Addr} {ox:Obj} {od:Option Obj} {name:Str}
end
end L2
namespace L2
open PySem PySem.Spec PyProof.Rows
section
variable {X:Cx} {pins:List (Addr × Obj)} {σ:St} {H:Hp} {s:Shared} {a C:Addr} {fs:List (Str × V)} {A:Around} {E:Value→Shared→Prop}
end
end L2
namespace L2
open PySem PySem.Spec PyProof.Rows
section
variable {P:Program} {w:World} {A:Around} {E:Value→Shared→Prop} {s:Shared}
end
section
variable {X:Cx}
end
end L2
namespace L2
open PySem PySem.Spec PyProof.Rows
section
variable {P:Program} {w:World} {A:Around} {E:Value→Shared→Prop} {s:Shared} {d:Addr} {vs:List Value} {ep:Nat}
end
section
variable {X:Cx} {pins:List (Addr × Obj)} {σ:St} {H:Hp} {s:Shared} {x:Str} {k:Nat} {ps:List Str} {sp:Sp}
end
end L2
namespace L2
open PySem PySem.Spec PyProof.Rows
section
open PySem.W (KasT kas_asc kas_desc kas_tail3 kas_descPart kas_count kas_place kas_bin kas_sort kas_rev)
variable {n:Nat} {key:Nat→Nat} {p:Array Nat}
end
end L2
namespace L2
open PySem PySem.Spec PyProof.Rows
section
open PySem.W (kas_sort kas_ask kas_item)
variable {X:Cx} {pins:List (Addr × Obj)} {σ:St} {H:Hp} {s:Shared}
end
end L2
namespace L2
open PySem PySem.Spec PyProof.Rows
section
variable {P:Program} {w:World} {A:Around} {E:Value→Shared→Prop} {s:Shared}
set_option maxHeartbeats 3200000 in
end
section
variable {X:Cx}
end
end L2
namespace L2
open PySem PySem.Spec PyProof.Rows
section
variable {P:Program} {w:World} {A:Around} {E:Value→Shared→Prop} {s:Shared} {t r:Addr} {items:Array Value}
end
section
variable {X:Cx}
inductive rSlWI (K:PySem.W.Frag) (x:V) (lo:Option Int) (hi:Option Int) (H:Hp) (Q:VK):Prop
 | mk (a xs:_) (h1:x=.ref a) (h2:SqT K H a xs) (h3:(HT.sIx xs.length 0 lo=0∧HT.sIx xs.length xs.length hi=xs.length)) (h4:Q (.ref a) H):rSlWI K x lo hi H Q
def rSlW (K:PySem.W.Frag):V→Option Int→Option Int→Hp→VK→Prop:=fun x lo hi H Q=>rSlWI K x lo hi H Q
theorem sl_tupW {K:PySem.W.Frag} (hK:X.K=K:=by rfl):SlR X (rSlW K):=by
 subst hK
 intro pins s σ H x v vl vu lo hi sl Q I rx hs pl pu h
 obtain ⟨a,xs,rfl,hx,hw,q⟩:=h
 cases rx
 obtain ⟨its,r,ht,hz⟩:=I.tuple hx
 have hlen:its.toArray.size=xs.length:=by rw [List.size_toArray]; exact r.length.symm
 refine ⟨"tuple",_,PyProof.Rows.slot_tuple_getitem.lookup,ht.typeIs,?_⟩
 obtain ⟨os,hos,hcs,hds⟩:=id hs
 have hTs:s.TypeIs (.ref sl) "slice":=⟨os,hos,hcs⟩
 unfold getItem
 try with_reducible refine wpAny_holding ?_
 first | refine wpAny_bind (wpAny_pure ?_) | skip
 refine wpAny_bind (wpAny_sequenceKey ht.typeIs (by decide) (wpAny_bind (wpAny_callSpecial?_slot (name:=Str.ofString "__getitem__") ht.typeIs PyProof.Rows.slot_tuple_getitem (wpAny_call_entry PyProof.Rows.slot_tuple_getitem ht.typeIs entry_tuple_getitem ?_ (args_tuple_getitem _ _)))))
 refine (show wpAny _ _ (Builtin.Tuple.tupleItemsOf (.ref a) >>= _) _ _ s from wpAny_bind (tupleItemsOf_ ht (wpAny_bind (wpAny_typeOf hTs ?_))))
 rw [if_pos (by decide)]
 refine wpAny_bind (HT.sliceApplied_gen hs pl pu ?_)
 have yes:(((HT.sIx its.toArray.size 0 lo:Nat):Int)==0 && (1:Int)==1 && (HT.sIx its.toArray.size its.toArray.size hi - HT.sIx its.toArray.size 0 lo)==its.toArray.size)=true:=by
  rw [hlen,hw.1,hw.2]
  simp
 show wpAny _ _ (if (((HT.sIx its.toArray.size 0 lo:Nat):Int)==0 && (1:Int)==1 && (HT.sIx its.toArray.size its.toArray.size hi - HT.sIx its.toArray.size 0 lo)==its.toArray.size)=true then _ else _) _ _ s
 rw [if_pos yes]
 unfold Builtin.Tuple.tupleIsExact
 refine wpAny_bind (wpAny_bind (wpAny_typeOf ht.typeIs (wpAny_pure ?_)))
 rw [if_pos (by decide)]
 exact wpAny_bind (wpAny_rule (wpAny_pure ⟨_,rfl,wpAny_pure ⟨.ref a,H,I,rfl,q⟩⟩))
inductive rSlGI (x:V) (lo:Option Int) (hi:Option Int) (H:Hp) (Q:VK):Prop
 | mk (a xs:_) (h1:x=.ref a) (h2:H a=some (.tup xs)) (h3:∀ g H',Same H H'→H' g=some (.tup (cutV xs lo hi))→Q (.ref g) H'):rSlGI x lo hi H Q
def rSlG (K:PySem.W.Frag):V→Option Int→Option Int→Hp→VK→Prop:=fun x lo hi H Q=>rSlGI x lo hi H Q
theorem sl_tupG {K:PySem.W.Frag} (hK:X.K=K:=by rfl):SlR X (rSlG K):=by
 intro pins s σ H x v vl vu lo hi sl Q I rx hs pl pu h
 obtain ⟨a,xs,e,hx,q⟩:=h
 by_cases z:HT.sIx xs.length 0 lo=0∧HT.sIx xs.length xs.length hi=xs.length
 ·refine sl_tupW hK pins s σ H x v vl vu lo hi sl Q I rx hs pl pu ⟨a,xs,e,SqT.of hx,z,q a H (Same.refl _) ?_⟩
  have:cutV xs lo hi=xs:=by
   unfold cutV
   rw [z.1,z.2,List.drop_zero,Nat.sub_zero,List.take_length]
  rw [this]
  exact hx
 ·exact sl_tupK hK pins s σ H x v vl vu lo hi sl Q I rx hs pl pu ⟨a,xs,e,SqT.of hx,z,fun p hp=>q p _ (same_new hp _) upd_same⟩
end
end L2
namespace L2
open PySem PySem.Spec PyProof.Rows
section
variable {X:Cx} {tg:Expr}
end
end L2
namespace L2
open PySem PySem.Spec PyProof.Rows
def FnO (f:Addr) (fd:FuncData):HO:=.ext fun h=>h.get? f=some { cls:=.type "function",data:=.func fd }
def CdO (c:Addr) (q:Str):HO:=.ext fun h=>h.CodeRec (.ref c) q
section
variable {P:Program} {w:World} {H:Hp} {h h':Heap} {f c a:Addr} {fd:FuncData} {q:Str}
theorem fno_ok (e:h.get? f=some { cls:=.type "function",data:=.func fd }):ObjOk P w H h f (FnO f fd):=⟨e,⟨_,e⟩,fun _ _ a k=>k _ a⟩
theorem cdo_ok (e:h.CodeRec (.ref c) q):ObjOk P w H h c (CdO c q):=by
 have e':=e
 obtain ⟨c2,o,vs,t,e1,e2,e3,e4⟩:=e'
 cases e1
 refine ⟨e,⟨o,e2⟩,fun h1 h2 a k=>?_⟩
 obtain ⟨c3,o3,vs3,t3,f1,f2,f3,f4⟩:=a
 cases f1
 exact ⟨_,o3,vs3,t3,rfl,k _ f2,f3,f4⟩
theorem FnO.at_ (ok:HOk P w H h) (e:H f=some (FnO f fd)):h.get? f=some { cls:=.type "function",data:=.func fd }:=(ok f _ e).1
theorem CdO.at_ (ok:HOk P w H h) (e:H c=some (CdO c q)):h.CodeRec (.ref c) q:=(ok c _ e).1
end
theorem among_app {p:Pos} {r:List Value} (l:List Value) (h:TriplesOk l):codeAmong p (l ++ r)=match codeAmong p l with | some c=>some c | none=>codeAmong p r:=by
 fun_induction TriplesOk l with
 | case1=>rfl
 | case2 a t b u x rest ih=>
  simp only [List.cons_append,codeAmong]
  split
  ·rfl
  ·exact ih h
 | case3 l h1 h2=>exact h.elim
def SameT (P:Addr) (H H':Hp):Prop:=∀ b o,b≠P→H b=some o→H' b=some o
theorem SameT.trans {P:Addr} {H H1 H2:Hp} (a:SameT P H H1) (b:SameT P H1 H2):SameT P H H2:=fun c o n h=>b c o n (a c o n h)
theorem Same.t {P:Addr} {H H1:Hp} (a:Same H H1):SameT P H H1:=fun c o _ h=>a c o h
def Tb (P:Addr) (L:List (Pos × Str)) (H:Hp):Prop:=
 ∃ ps,H P=some (.tbl ps)∧TriplesOk ps.toList∧∀ x∈L,codeAmong x.1 ps.toList=none∨∃ c,codeAmong x.1 ps.toList=some (.ref c)∧H c=some (CdO c x.2)
theorem Tb.same {P:Addr} {L:List (Pos × Str)} {H H':Hp} (t:Tb P L H) (e:Same H H'):Tb P L H':=by
 obtain ⟨ps,h1,h2,h3⟩:=t
 refine ⟨ps,e _ _ h1,h2,fun x hx=>?_⟩
 rcases h3 x hx with h | ⟨c,a,b⟩
 ·exact .inl h
 ·exact .inr ⟨c,a,e _ _ b⟩
theorem Tb.start {P:Addr} {L:List (Pos × Str)} {H:Hp} (h:H P=some (.tbl #[])):Tb P L H:=⟨#[],h,True.intro,fun _ _=>.inl rfl⟩
section
variable {fs ex:List Addr} {H:Hp} {h h':Heap} {P c f:Addr} {o1 o2:HO} {ps more:Array Value}
def made (H:Hp) (P c f:Addr) (ps:Array Value) (o1 o2:HO):Hp:=upd (upd (upd H P (.tbl ps)) c o1) f o2
theorem made_ne {b:Addr} (h1:b≠P) (h2:b≠c) (h3:b≠f):made H P c f ps o1 o2 b=H b:=by
 unfold made
 rw [upd_ne h3,upd_ne h2,upd_ne h1]
theorem made_f:made H P c f ps o1 o2 f=some o2:=upd_same
theorem made_c (n:c≠f):made H P c f ps o1 o2 c=some o1:=by
 unfold made
 rw [upd_ne n,upd_same]
theorem made_P (n1:P≠c) (n2:P≠f):made H P c f ps o1 o2 P=some (.tbl ps):=by
 unfold made
 rw [upd_ne n2,upd_ne n1,upd_same]
theorem Un.made (e:H P=some (.tbl ps)) (k:∀ b u,b≠P→h.get? b=some u→h'.get? b=some u) (hP:∃ u,h'.get? P=some u) (hc:h.objs.size≤c) (hf:h.objs.size≤f) (nc:H c=none) (nf:H f=none) :
  Un fs ex H (made H P c f (ps ++ more) o1 o2) h h':=by
 have nP:∀ b,H b=none→b≠P:=fun b n z=>by rw [z,e] at n; cases n
 have lo:∀ {b:Addr} {u:Obj},h.get? b=some u→b≠c∧b≠f:=fun {b u} q=>⟨Nat.ne_of_lt (Nat.lt_of_lt_of_le (Heap.lt_size q) hc),Nat.ne_of_lt (Nat.lt_of_lt_of_le (Heap.lt_size q) hf)⟩
 refine ⟨fun b u q n _ _=>k b u (nP b n) q,fun b u q n _ _=>⟨u.slots,k b u (nP b n) q⟩,fun b u q n _=>by rw [made_ne (nP b n) (lo q).1 (lo q).2]; exact n,fun b u q _=>?_,fun b xs q=>?_,fun b u xs q=>?_,fun b ps' q=>?_⟩
 ·by_cases hb:b=P
  ·rw [hb]; exact hP
  ·exact ⟨u,k b u hb q⟩
 ·rw [made_ne (fun z=>by rw [z,e] at q; cases q) (ne_of_none q nc) (ne_of_none q nf)]; exact q
 ·rw [made_ne (fun z=>by rw [z,e] at q; cases q) (ne_of_none q nc) (ne_of_none q nf)]; exact q
 ·by_cases hb:b=P
  ·subst hb
   rw [e] at q
   cases q
   exact ⟨more,made_P (ne_of_none e nc) (ne_of_none e nf)⟩
  ·exact ⟨#[],by rw [made_ne hb (ne_of_none q nc) (ne_of_none q nf),q]; simp⟩
theorem HOk.made {Pg:Program} {w:World} (ok:HOk Pg w H h) (e:H P=some (.tbl ps)) (k:∀ b u,b≠P→h.get? b=some u→h'.get? b=some u) (hP:h'.get? P=some (PySem.W.tabObj (ps ++ more))) (nc:H c=none) (nf:H f=none) (ncf:c≠f)
  (hc:ObjOk Pg w (made H P c f (ps ++ more) o1 o2) h' c o1) (hf:ObjOk Pg w (made H P c f (ps ++ more) o1 o2) h' f o2):HOk Pg w (made H P c f (ps ++ more) o1 o2) h':=fun b u q=>by
 by_cases b1:b=f
 ·subst b1; rw [made_f] at q; cases q; exact hf
 by_cases b2:b=c
 ·subst b2; rw [made_c ncf] at q; cases q; exact hc
 by_cases b3:b=P
 ·subst b3; rw [made_P b2 b1] at q; cases q; exact hP
 rw [made_ne b3 b2 b1] at q
 refine (ok b u q).stay (fun y v hy r=>k y v ?_ r) (fun y r=>?_) fun y xs r=>?_
 ·rcases hy with z | z
  ·rw [z]; exact b3
  ·intro z2
   rw [z2,e] at z
   cases z
 ·rw [made_ne (fun z=>by rw [z,e] at r; cases r) (ne_of_none r nc) (ne_of_none r nf)]; exact r
 ·rw [made_ne (fun z=>by rw [z,e] at r; cases r) (ne_of_none r nc) (ne_of_none r nf)]; exact r
end
def BltM (mg:Str→Option Value) (h:Heap):Prop:=∃ bm ob,mg "__builtins__" = some (.ref bm)∧bm≠builtinsNs∧h.get? bm=some ob∧ob.cls=.type "module"∧ob.dict=some builtinsNs∧ob.data=.plain
theorem BltM.keeps {mg:Str→Option Value} {h h':Heap} (b:BltM mg h) (k:∀ b o,h.get? b=some o→h'.get? b=some o):BltM mg h':=
 let ⟨bm,ob,h1,h2,h3,r⟩:=b; ⟨bm,ob,h1,h2,k _ _ h3,r⟩
theorem BltM.at_ {mg:Str→Option Value} {h:Heap} {P:Addr} {ps:Array Value} (b:BltM mg h) (g:h.Ns mainGlobals mg) (e:h.get? P=some (PySem.W.tabObj ps)):h.BuiltinsAt mg P:=by
 obtain ⟨bm,ob,h1,h2,h3,h4,h5,h6⟩:=b
 refine ⟨bm,ob,h1,h2,fun z=>?_,fun z=>?_,h3,h4,h5,h6⟩
 ·obtain ⟨o,es,ep,e2,hd,_⟩:=g
  rw [z,e2] at h3; cases h3; rw [hd] at h6; cases h6
 ·rw [z,e] at h3; cases h3; cases h4
theorem ns_ne {mg:Str→Option Value} {h:Heap} {P:Addr} {ps:Array Value} (g:h.Ns mainGlobals mg) (e:h.get? P=some (PySem.W.tabObj ps)):mainGlobals≠P:=fun z=>by
 obtain ⟨o,es,ep,e2,hd,_⟩:=g
 rw [z,e] at e2; cases e2; cases hd
def tLam (P:Addr) (L:List (Pos × Str)) (fdOf:Addr→Value→FuncData) (q:Str):TE:=fun _ H Q=>Tb P L H∧
 ∀ H' f c ct,SameT P H H'→Tb P L H'→H f=none→H' f=some (FnO f (fdOf c ct))→H' c=some (CdO c q)→Q (.ref f) H'
section
variable {X:Cx} {params:Arguments} {body:Expr} {scope:Scope} {pos:Pos} {c P:Addr} {L:List (Pos × Str)}
theorem made_ok {pins:List (Addr × Obj)} {σ:St} {H:Hp} {s:Shared} {q:Str} {fdOf:Addr→Value→FuncData} {Q:VK} {ps:Array Value} (I:Inv X pins σ H s) (hP:H P=some (.tbl ps)) (ht:TriplesOk ps.toList)
  (hT:∀ x∈L,codeAmong x.1 ps.toList=none∨∃ c,codeAmong x.1 ps.toList=some (.ref c)∧H c=some (CdO c x.2)) (hu:∀ x∈L,x.1.line=pos.line→x.1.col=pos.col→x.2=q)
  (hq:∀ H' f c ct,SameT P H H'→Tb P L H'→H f=none→H' f=some (FnO f (fdOf c ct))→H' c=some (CdO c q)→Q (.ref f) H') (hn:codeAmong pos ps.toList=none)
  {c':Addr} {ctv:Value} {h':Heap} {tk:Tok} (hx:Heap.ExtBut P s.heap h') (hge:s.heap.objs.size≤c') (hlt:c' < h'.objs.size) (hrec:h'.CodeRec (.ref c') q)
  (htb:h'.get? P=some (PySem.W.tabObj (ps ++ #[rawInt pos.line,rawInt pos.col,.ref c']))) :
  EP X pins σ Q (.ref h'.objs.size) { s with heap:=h'.push { cls:=.type "function",data:=.func (fdOf c' ctv) },toks:=tk }:=by
 have hsz:s.heap.objs.size≤h'.objs.size:=Nat.le_of_lt (Nat.lt_of_le_of_lt hge hlt)
 have nc:H c'=none:=I.hok.fresh hge
 have nf:H h'.objs.size=none:=I.hok.fresh hsz
 have ncf:c'≠h'.objs.size:=Nat.ne_of_lt hlt
 have k:∀ b u,b≠P→s.heap.get? b=some u→(h'.push { cls:=.type "function",data:=.func (fdOf c' ctv) }).get? b=some u:=fun b u hb e=>Heap.get?_push_of_some _ (hx b u hb e)
 have hPc:P≠c':=ne_of_none hP nc
 have hPf:P≠h'.objs.size:=ne_of_none hP nf
 refine ⟨.ref h'.objs.size,L2.made H P c' h'.objs.size (ps ++ #[rawInt pos.line,rawInt pos.col,.ref c']) (CdO c' q) (FnO h'.objs.size (fdOf c' ctv)),
  I.un (t':=tk) (Un.made hP k ⟨_,Heap.get?_push_of_some _ htb⟩ hge hsz nc nf) (HOk.made I.hok hP k (Heap.get?_push_of_some _ htb) nc nf ncf (cdo_ok (hrec.push _)) (fno_ok (Heap.get?_push_size _ rfl))),rfl,?_⟩
 refine hq _ _ c' ctv (fun b o hb e=>by rw [made_ne hb (ne_of_none e nc) (ne_of_none e nf)]; exact e) ⟨_,made_P hPc hPf,?_,fun x hx2=>?_⟩ nf made_f (made_c ncf)
 ·rw [Array.toList_append]
  exact TriplesOk_snoc _ _ _ _ ht
 ·rw [Array.toList_append,among_app _ ht]
  rcases hT x hx2 with hh | ⟨c2,e1,e2⟩
  ·rw [hh]
   show codeAmong x.1 [rawInt pos.line,rawInt pos.col,.ref c']=none∨_
   by_cases hp:x.1.line=pos.line∧x.1.col=pos.col
   ·refine .inr ⟨c',?_,?_⟩
    ·simp [codeAmong,rawInt,hp.1,hp.2]
    ·rw [hu x hx2 hp.1 hp.2]
     exact made_c ncf
   ·left
    have:¬ ((pos.line=x.1.line)∧(pos.col=x.1.col)):=fun z=>hp ⟨z.1.symm,z.2.symm⟩
    simp only [codeAmong,rawInt]
    rw [if_neg]
    ·rw [Bool.and_eq_true,beq_iff_eq,beq_iff_eq]
     rintro ⟨z1,z2⟩
     exact this ⟨by omega,by omega⟩
  ·rw [e1]
   refine .inr ⟨c2,rfl,?_⟩
   rw [made_ne (fun z=>by rw [z,hP] at e2; cases e2) (ne_of_none e2 nc) (ne_of_none e2 nf)]
   exact e2
theorem pe_lam (hcode:X.env.code=.ref c) (C:PySem.W.CodeHd X.base c P) (hB:BltM X.mg X.base) (hL:(pos,X.env.qual ++ "<lambda>")∈L) (hu:∀ x∈L,x.1.line=pos.line→x.1.col=pos.col→x.2=X.env.qual ++ "<lambda>")
  (hdef:defaultsOf params X.env=([],[]):=by rfl) {sc:Scope} (hsc:X.env.scope=sc:=by rfl) (hfr:∀ y∈scope.names,y.2=NameKind.free→sc.names.lookup y.1=some .cell∨sc.names.lookup y.1=some .free:=by decide +kernel) :
  PE X (.Lambda params body scope pos) (tLam P L (fun c ct=>PySem.W.kla_fn "<lambda>" (X.env.qual ++ "<lambda>") params body scope (clOf X.env scope.names []) ((X.mg "__name__").getD .none) (.ref c) ct) (X.env.qual ++ "<lambda>")):=by
 intro pins s σ H Q I ⟨⟨ps,hP,ht,hT⟩,hq⟩
 have hPo:s.heap.get? P=some (PySem.W.tabObj ps):=I.hok P _ hP
 have hg:=I.mod.glob.keeps I.bk
 have hb:=(hB.keeps I.bk).at_ hg hPo
 have hcl:∀ y∈scope.names,y.2=NameKind.free→∃ c,X.env.cells.lookup y.1=some c:=fun y hy e=>I.ok.has y.1 (by subst hsc; exact hfr y hy e)
 refine PySem.W.kla_eval hdef ?_
 rcases hT _ hL with hn | ⟨c2,hc,hcd⟩
 ·refine PySem.W.kla_makeFunction (mg:=X.mg) (closure_is hcl) I.ok.glob hg hcode (C.keeps I.bk) hPo ht hn (ns_ne hg hPo) hb fun c' ctv h' tk hx hge hlt hrec htb=>?_
  exact made_ok (fdOf:=fun c ct=>PySem.W.kla_fn "<lambda>" (X.env.qual ++ "<lambda>") params body scope (clOf X.env scope.names []) ((X.mg "__name__").getD .none) (.ref c) ct) I hP ht hT hu hq hn hx hge hlt hrec htb
 ·refine PySem.W.kla_makeFunctionHit (mg:=X.mg) (closure_is hcl) I.ok.glob hg hcode (C.keeps I.bk) hPo ht hc hb fun ctv h' tk hk hsz=>?_
  have nf:H h'.objs.size=none:=I.hok.fresh hsz
  refine ⟨.ref h'.objs.size,_,I.laid (t':=tk) (fun b u e=>Heap.get?_push_of_some _ (hk b u e)) hsz (fno_ok (Heap.get?_push_size _ rfl)),rfl,?_⟩
  have e0:Same H (upd H h'.objs.size (FnO h'.objs.size (PySem.W.kla_fn "<lambda>" (X.env.qual ++ "<lambda>") params body scope (clOf X.env scope.names []) ((X.mg "__name__").getD .none) (.ref c2) ctv))):=fun b o e=>by rw [upd_ne (ne_of_none e nf)]; exact e
  exact hq _ _ c2 ctv e0.t (Tb.same ⟨ps,hP,ht,hT⟩ e0) nf upd_same (e0 _ _ hcd)
end
def tCallV (i:Nat) (f:Addr) (fd:FuncData) (sp:Sp) (t:TA):TE:=fun σ H Q=>σ[i]? = some (some (.ref f))∧H f=some (FnO f fd)∧t σ H fun vs H1=>H1 f=some (FnO f fd)∧sp vs H1 Q E0
theorem pe_callV {X:Cx} {i k:Nat} {f:Addr} {fd:FuncData} {ps:List Str} {sp:Sp} {x:Str} {p pos:Pos} {e:Expr} {es:List Expr} {t:TA} (F:FnOk X.prog X.w X.K X.mg X.base CX0 k f fd ps sp) (hr:Room k X.A) (hb:Binds X.K fd ps [])
  (ha:PA X (e :: es) t) (hN:X.N[i]? = some x:=by rfl) (hv:Vis X.env.scope x:=by first | exact Or.inl rfl | exact Or.inr (Or.inl rfl) | exact Or.inr (Or.inr rfl)) (hd:(x==("__debug__" : Str))=false:=by decide) (hcd:(x==("__classdict__" : Str))=false:=by decide)
  (he:starEach (e :: es) X.env=(false,eval e X.env) :: starEach es X.env:=by rfl) (hpl:(backTo pos (starEach es X.env)).any (·.1)=false:=by rfl):PE X (.Call (.Name x p) (e :: es) [] pos) (tCallV i f fd sp t):=by
 intro pins s σ H Q I ⟨hs,hf,h⟩
 refine wpAny_Call_Name_kw (thn (pe_var hN hv hd hcd pins s σ H (fun v H1=>v=.ref f∧H1=H) I ⟨_,hs,rfl,rfl⟩) fun u s1 ⟨v,H1,I1,r,q⟩=>?_)
 obtain ⟨rfl,rfl⟩:=q
 obtain rfl:u=Value.ref f:=r
 refine PySem.W.callWith_F ⟨_,_,_,_,FnO.at_ I1.hok hf⟩ (thn (ha pos pins s1 σ H1 _ I1 h) fun us s2 ⟨vs,H2,I2,r2,q1,q2⟩=>⟨⟨_,_,_,_,FnO.at_ I2.hok q1⟩,?_⟩) he hpl
 exact run_fn F hr hb .nil pass0 I2 r2 (by rw [List.append_nil]; exact q2)
structure LamSc (N ps:List Str) (scope:Scope):Prop where
 kind:scope.kind=.function
 co:scope.isCoroutine=false
 gen:scope.isGenerator=false
 nd:N.Nodup
 pre:N.take ps.length=ps
 par:∀ x∈ps,scope.names.lookup x=some .local
 nocell:∀ y∈scope.names,y.2≠.cell
structure LamCl (base:Heap) (N ps:List Str) (scope:Scope) (cl:List (Str × Addr)) (fv:List V):Prop where
 inj:∀ x y c,cl.lookup x=some c→cl.lookup y=some c→x=y
 has:∀ x,scope.names.lookup x=some .free→∃ c,cl.lookup x=some c
 cell:∀ x c,cl.lookup x=some c→∃ v,base.IsCell c v
 len:N.length=ps.length+fv.length
 val:∀ (j:Nat) x v,N[ps.length+j]? = some x→fv[j]? = some v→scope.names.lookup x=some .free∧∃ c u,cl.lookup x=some c∧RelV v u∧base.IsCell c (some u)
def cxLam (P:Program) (w:World) (K:PySem.W.Frag) (mg:Str→Option Value) (base:Heap) (N:List Str) (qual:Str) (scope:Scope) (f:Addr) (cd:Value) (cl:List (Str × Addr)) (A:Around) (outer:List Env) (s:Shared) (H:Hp):Cx where
 prog:=P
 w:=w
 K:=K
 mg:=mg
 base:=base
 A:=A.deeper (PySem.W.envX qual scope s.heap.objs.size f cd cl)
 N:=N
 s₀:=s
 H₀:=H
 env:=PySem.W.envX qual scope s.heap.objs.size f cd cl
 outer:=outer
 stack:=PySem.W.envX qual scope s.heap.objs.size f cd cl :: outer
 ex:=[]
 calm:=true
 fn:=fun _=>false
 pn:=[]
 xe:=fun _ _=>False
theorem rev_lookup:∀ {ps:List Str} {us:List Value} {i:Nat} {y:Str} {u:Value},ps.Nodup→ps[i]? = some y→us[i]? = some u→((ps.zip us).reverse).lookup y=some u
 | [],_,_,_,_,_,h,_=>by simp at h
 | _ :: _,[],_,_,_,_,_,h=>by simp at h
 | p :: ps,u0 :: us,0,y,u,nd,h1,h2=>by
  simp at h1 h2
  subst h1; subst h2
  rw [List.zip_cons_cons,List.reverse_cons]
  have hn:((ps.zip us).reverse).lookup p=none:=by
   rw [List.lookup_eq_none_iff]
   rintro ⟨a,b⟩ hm
   have:=(List.of_mem_zip (List.mem_reverse.mp hm)).1
   have ne:a≠p:=fun z=>(List.nodup_cons.mp nd).1 (z▸this)
   simpa using fun z=>ne z.symm
  rw [List.lookup_append,hn]
  simp [List.lookup]
 | p :: ps,u0 :: us,i+1,y,u,nd,h1,h2=>by
  rw [List.zip_cons_cons,List.reverse_cons,List.lookup_append,rev_lookup (i:=i) (List.nodup_cons.mp nd).2 (by simpa using h1) (by simpa using h2)]
  rfl
theorem inv_lam {P:Program} {w:World} {K:PySem.W.Frag} {mg:Str→Option Value} {base:Heap} {N ps:List Str} {qual:Str} {scope:Scope} {f:Addr} {cd:Value} {cl:List (Str × Addr)} {fv:List V} {A:Around} {outer:List Env} {s:Shared} {H:Hp} {us:List Value} {vs:List V} {h1:Heap} {tk:Tok}
  (S:LamSc N ps scope) (LC:LamCl base N ps scope cl fv) (hd:A.handled=none) (e0:Env0 P w K mg base A outer s H) (hl:vs.length=ps.length) (r:Vals vs us)
  (hns:h1.Ns s.heap.objs.size (fun x=>(ps.zip us).reverse.lookup x)) (hk:∀ b o,s.heap.get? b=some o→h1.get? b=some o) :
  Inv (cxLam P w K mg base N qual scope f cd cl A outer s H) [] (vs.map some ++ fv.map some) H { s with heap:=h1,toks:=tk }:=by
 have noA:∀ b:Addr,b∉(cxLam P w K mg base N qual scope f cd cl A outer s H).ex:=fun b z=>absurd (show b∈([]:List Addr) from z) (by simp)
 have bk:∀ b o,base.get? b=some o→h1.get? b=some o:=fun b o e=>hk b o (e0.bs b o e).1
 have ndP:ps.Nodup:=by rw [← S.pre]; exact S.nd.sublist (List.take_sublist _ _)
 have cellK:∀ {c:Addr} {v:Option Value},base.IsCell c v→h1.IsCell c v:=fun ⟨o,e,d⟩=>⟨o,bk _ _ e,d⟩
 refine ⟨⟨e0.mod,S.kind,rfl,rfl,Nat.le_refl _,fun y z c h1 h2=>LC.inj y z c h1 h2,fun y hy=>?_,fun y c z _=>(by cases z),fun _=>hd,Around.frames_deeper e0.frames,.inr ⟨rfl,rfl⟩,fun b z=>absurd z (noA b),e0.bs,e0.bsz,fun b _ _=>noA b,fun b z=>absurd z (noA b),e0.funs,e0.frf⟩,
  rfl,e0.bare,Un.kept hk,⟨_,hns,fun i y v h1 h2 h3=>?_⟩,fun y c h=>?_,e0.hok.fresh (Nat.le_refl _),fun y c h=>?_,fun p hp=>absurd (show p∈([]:List (Addr × Obj)) from hp) (by simp),e0.hok.kept hk,?_⟩
 ·have hy:scope.names.lookup y=some .cell∨scope.names.lookup y=some .free:=hy
  rcases hy with hy | hy
  ·exact absurd rfl (S.nocell _ (PySem.mem_of_lookup hy))
  ·exact LC.has y hy
 ·have h1:N[i]? = some y:=h1
  by_cases hi:i < vs.length
  ·have ha:vs[i]? = some v:=by
    rw [List.getElem?_append_left (by simpa using hi),List.getElem?_map] at h2
    cases e:vs[i]? with
    | none=>rw [e] at h2; cases h2
    | some a=>rw [e] at h2; cases h2; rfl
   obtain ⟨u,hu,rv⟩:=r.get ha
   have hp:ps[i]? = some y:=by
    rw [← S.pre,List.getElem?_take_of_lt (by omega)]; exact h1
   exact ⟨u,rv,.inl ⟨S.par y (List.mem_of_getElem? hp),rev_lookup ndP hp hu⟩⟩
  ·rw [List.getElem?_append_right (by simpa using hi),List.getElem?_map] at h2
   rw [List.length_map] at h2
   have ha:fv[i - vs.length]? = some v:=by
    cases e:fv[i - vs.length]? with
    | none=>rw [e] at h2; cases h2
    | some a=>rw [e] at h2; cases h2; rfl
   have e:ps.length+(i - vs.length)=i:=by omega
   obtain ⟨hf,c,u,hc,rv,hcell⟩:=LC.val (i - vs.length) y v (by rw [e]; exact h1) ha
   exact ⟨u,rv,.inr ⟨.inr hf,c,hc,cellK hcell⟩⟩
 ·obtain ⟨v,z⟩:=LC.cell y c h
  exact ⟨v,cellK z⟩
 ·obtain ⟨v,o,e,_⟩:=LC.cell y c h
  exact (e0.bs c o e).2
 ·show _=N.length
  rw [List.length_append,List.length_map,List.length_map,LC.len,hl]
theorem lam_ok {P:Program} {w:World} {K:PySem.W.Frag} {mg:Str→Option Value} {base:Heap} {k:Nat} {f c:Addr} {name qual:Str} {params:Arguments} {body:Expr} {scope:Scope} {cl:List (Str × Addr)} {pm ct:Value} {N ps:List Str} {fv:List V} {sp:Sp}
  (S:LamSc N ps scope) (LC:LamCl base N ps scope cl fv) (len:∀ vs H Q E,sp vs H Q E→vs.length=ps.length)
  (hat:∀ vs H Q E,sp vs H Q E→H f=some (FnO f (PySem.W.kla_fn name qual params body scope cl pm (.ref c) ct))∧H c=some (CdO c qual))
  (hbody:∀ (A:Around) (outer:List Env) (s:Shared) (H:Hp) (vs:List V) (Q:VK) (E:XK),Room k (A.deeper (PySem.W.envX qual scope s.heap.objs.size f (.ref c) cl))→sp vs H Q E→
   ∃ t,PE (cxLam P w K mg base N qual scope f (.ref c) cl A outer s H) body t∧t (vs.map some ++ fv.map some) H Q) :
  FnOk P w K mg base CX0 (k+1) f (PySem.W.kla_fn name qual params body scope cl pm (.ref c) ct) ps sp:=by
 refine ⟨len,fun A outer s H args us vs Q E hr e0 hb r hsp=>?_⟩
 have hl:=len _ _ _ _ hsp
 obtain ⟨hf,hc⟩:=hat _ _ _ _ hsp
 have lim:s.heap.NoLimit:=e0.mod.nolimit.keeps fun b o e=>(e0.bs b o e).1
 refine PySem.W.kla_callFunE hr.depth (FnO.at_ e0.hok hf) rfl S.co S.gen rfl (CdO.at_ e0.hok hc) (hb _ _ _ _ ?_)
 refine wpAny_newFunctionEnv S.nocell (fun y hy=>S.par y.1 (List.of_mem_zip hy).1) (fun h1 hns hsb=>?_) S.kind
 have hk:∀ b o,s.heap.get? b=some o→h1.get? b=some o:=fun b o e=>hsb.extBut b o (Nat.ne_of_lt (Heap.lt_size e)) (Heap.get?_push_of_some _ e)
 refine ⟨lim.keeps hk,PySem.W.kla_codeExpr ?_⟩
 obtain ⟨t,ht,hq⟩:=hbody A outer s H vs Q E (hr.deeper _) hsp
 have I:Inv (cxLam P w K mg base N qual scope f (.ref c) cl A outer s H) [] (vs.map some ++ fv.map some) H { s with heap:=h1,toks:=s.toks+(ps.zip us).length }:=inv_lam S LC hr.hd e0 hl r hns hk
 refine wpAny_mono (ht [] _ _ H _ I hq) (fun u s' hs=>?_) fun e s' hs=>hs.elim
 obtain ⟨v,H',J,rv,q⟩:=hs
 exact ⟨v,H',J.os,J.bare,J.base,J.hok,rv,q⟩
theorem Fun.okC {P:Program} {w:World} {K:PySem.W.Frag} {mg:Str→Option Value} {base:Heap} {x qual:Str} {st:Stmt} {f:Addr} {fd:FuncData} {N ps:List Str} {k:Nat} {sp:Sp} (F:Fun K x qual st f fd) (S:FnScope N ps (defScope st)) (len:∀ vs H Q E,sp vs H Q E→vs.length=ps.length)
  (hbody:∀ (A:Around) (outer:List Env) (s:Shared) (H:Hp) (vs:List V) (Q:VK) (E:XK),Room k (A.deeper (envOfC qual (defScope st) s.heap.objs.size f fd.code))→sp vs H Q E→
   ∃ t,PSs (cxOf CX0 P w K mg base N qual (defScope st) f fd.code A outer s H E).nox (defBody st) t∧t { nx:=fun _ H'=>Q .non H',rt:=Q } (start N vs) H):FnOk P w K mg base CX0 (k+1) f fd ps sp:=by
 obtain ⟨oc,od,kV,doc,pm,an,cdv,ct,osl,rfl,lk,hcd⟩:=F.ex
 refine fn_of lk hcd S len fun A outer s H vs Q E hr hsp=>?_
 obtain ⟨t,h,q⟩:=hbody A outer s H vs Q E hr hsp
 exact ⟨t,h.nox,q⟩
theorem law_callT {P:Program} {w:World} {K:PySem.W.Frag} {mg mb:Str→Option Value} {CX:CXT} {k:Nat} {fa a:Addr} {fd:FuncData} {x:Str} {sp:Sp} {s₁:Shared} {vs:List Value} {ns:List Int} {tabs:List (Addr × Addr)}
  (KX:K.In s₁.heap) (hns:s₁.heap.Ns mainGlobals mg) (hb:s₁.heap.Ns builtinsNs mb) (hbb:∀ x:Str,x≠"__name__"→mb x=bootBuiltins x) (hlim:s₁.heap.NoLimit) (hg:s₁.gens = #[])
  (ha:s₁.heap.get? a=some { cls:=.type "list",data:=.seq vs.toArray }) (hi:IntsAre vs ns) (hl:ns.length≤sizeLine) (hr:Room k callerA) (hT:PySem.W.TabsAt tabs s₁.heap) (hK0:PySem.W.noTabs K=true) (hBM:BltM mg s₁.heap)
  (F:∀ base:Heap,K.In base→base.Ns mainGlobals mg→BltM mg base→FnOk P w K mg base CX k fa fd [x] sp) (hbind:∀ (s:Shared) (u:Value),BindsTo s fd ⟨[u],[]⟩ [(x,u)])
  (hsp:∀ H:Hp,(∀ q∈tabs,H q.2=some (.tbl #[]))→SqL K H a (ns.map V.int)→sp [.ref a] H (fun v _=>v=.bl true) fun _ _ _=>False)
  (hCX:∀ H e s',CX [] H s₁ (fun _ _ _=>False) e s'→False) :
  codeAny (model P w) callerA (.call (.ref fa) ⟨[.ref a],[]⟩) (fun r s'=>r=.ok (.ret (.bool true))∧OldK s₁.heap s'.heap∧s'.os=s₁.os∧AllBare s'.gens) s₁:=by
 have rv:=vals_ints hi
 have lenV:=hi.length
 have core:∀ H:Hp,(∀ b,H b=none∨(∃ o xs,H b=some (.frz o (.lst xs))∧b=a)∨(H b=some (.tbl #[])∧∃ q∈tabs,q.2=b))→(∀ q∈tabs,H q.2=some (.tbl #[]))→SqL K H a (ns.map V.int)→HOk P w H s₁.heap→(∀ o xs,H a=some (.frz o (.lst xs))→K.lookup a=none)→
   codeAny (model P w) callerA (.call (.ref fa) ⟨[.ref a],[]⟩) (fun r s'=>r=.ok (.ret (.bool true))∧OldK s₁.heap s'.heap∧s'.os=s₁.os∧AllBare s'.gens) s₁:=by
  intro H hO hTb hS hok hK
  have base_of:∀ {b:Addr} {o:Obj},s₁.heap.get? b=some o→H b=none→(hidT s₁.heap H).get? b=some o:=fun e n=>hidT_get e n
  have noA:∀ {b:Addr} {o:Obj},s₁.heap.get? b=some o→(∀ xs n,o.data≠.seq xs n)→(∀ xs,o.data≠.fields xs)→H b=none:=fun {b o} e d1 d2=>by
   rcases hO b with z | ⟨ob,xs,z,rfl⟩ | ⟨z,_⟩
   ·exact z
   ·rw [ha] at e; cases e
    exact absurd rfl (d1 _ _)
   ·have:=hok b _ z
    rw [show s₁.heap.get? b=some (PySem.W.tabObj #[]) from this] at e
    cases e
    exact absurd rfl (d2 _)
  have nsK:∀ {b:Addr} {m:Str→Option Value},s₁.heap.Ns b m→(hidT s₁.heap H).Ns b m:=fun {b m} ⟨o,es,ep,e,d,r⟩=>⟨o,es,ep,base_of e (noA e (fun _ _ z=>by rw [d] at z; cases z) fun _ z=>by rw [d] at z; cases z),d,r⟩
  have hKb:K.In (hidT s₁.heap H):=fun b o e=>base_of (KX b o e) (by
   rcases hO b with z | ⟨ob,xs,z,rfl⟩ | ⟨z,_⟩
   ·exact z
   ·rw [hK _ _ z] at e; cases e
   ·have e2:s₁.heap.get? b=some (PySem.W.tabObj #[]):=hok b _ z
    have e3:=KX b o e
    rw [e2] at e3
    cases e3
    have h2:=List.all_eq_true.mp hK0 _ (PySem.W.mem_of_lookupK e)
    exact absurd (show false=true from h2) Bool.false_ne_true)
  have hBb:BltM mg (hidT s₁.heap H):=by
   obtain ⟨bm,ob,b1,b2,b3,b4,b5,b6⟩:=hBM
   exact ⟨bm,ob,b1,b2,base_of b3 (noA b3 (fun _ _ z=>by rw [b6] at z; cases z) fun _ z=>by rw [b6] at z; cases z),b4,b5,b6⟩
  have hM:Mod K mg (hidT s₁.heap H):=⟨hKb,nsK hns,⟨mb,nsK hb,hbb⟩,let ⟨mc,h1,h2⟩:=hlim; ⟨mc,nsK h1,h2⟩⟩
  have e0:Env0 P w K mg (hidT s₁.heap H) callerA [] s₁ H:=⟨rfl,hM,fun b o e=>of_hidT e,Nat.le_of_eq (hidT_size _ _),trivial,fun b hb=>absurd (show b∈([]:List Addr) from hb) (by simp),hok,.of_eq hg⟩
  refine codeAny_mono ((F _ hKb (nsK hns) hBb).run callerA [] s₁ H ⟨[.ref a],[]⟩ [.ref a] [.ref a] _ _ hr e0 (hbind s₁ (.ref a)) (.cons rfl .nil) (hsp H hTb hS)) fun r s' h=>?_
  cases r with
  | error e=>exact (hCX H e s' h).elim
  | ok fl=>
   cases fl with
   | next=>exact False.elim h
   | brk=>exact False.elim h
   | cont=>exact False.elim h
   | ret u=>
    obtain ⟨v,H',os,bare,un,hok',r',q⟩:=h
    have q':v=.bl true:=q
    subst q'
    obtain rfl:u=Value.bool true:=r'
    refine ⟨rfl,⟨fun b o e=>?_,fun b o e=>un.there b o e (by simp)⟩,os,bare⟩
    rcases hO b with z | ⟨ob,xs,z,_⟩ | ⟨z,q,hq,rfl⟩
    ·exact .inl (un.keep b o e z (by intro z; exact absurd (show b∈([]:List Addr) from z) (by simp)) (by simp))
    ·have z2:=un.frzs b ob _ z
     obtain ⟨e1,_⟩:=hok b _ z
     obtain ⟨e2,_⟩:=hok' b _ z2
     rw [e] at e1; cases e1
     exact .inl e2
    ·obtain ⟨more,z2⟩:=un.tbls _ _ z
     have e1:s₁.heap.get? q.2=some (PySem.W.tabObj #[]):=(hT q hq).2
     rw [e] at e1
     cases e1
     exact .inr (.inl ⟨((hT q hq).1.tab (hT q hq).2).isCodeTable,rfl,#[],more,rfl,hok' _ _ z2⟩)
 have hTa:∀ q∈tabs,q.2≠a:=fun q hq z=>by
  have e:=(hT q hq).2
  rw [z,ha] at e
  cases e
 cases hk:K.lookup a with
 | some o=>
  have e:=KX a o hk
  rw [ha] at e
  cases e
  refine core (fun b=>if b∈tabs.map (·.2) then some (.tbl #[]) else none) (fun b=>?_) (fun q hq=>if_pos (List.mem_map_of_mem hq)) (.inr ⟨_,vs.toArray,_,hk,rfl,rfl,rfl,by rw [List.size_toArray,lenV]; exact hl,by simpa using rv⟩) (fun b u z=>?_) (fun o xs z=>?_)
  ·by_cases hb:b∈tabs.map (·.2)
   ·obtain ⟨q,hq,e⟩:=List.mem_map.mp hb
    exact .inr (.inr ⟨if_pos hb,q,hq,e⟩)
   ·exact .inl (if_neg hb)
  ·by_cases hb:b∈tabs.map (·.2)
   ·have z':=(if_pos hb).symm.trans z
    cases z'
    obtain ⟨q,hq,rfl⟩:=List.mem_map.mp hb
    exact (hT q hq).2
   ·have z':=(if_neg hb).symm.trans z
    cases z'
  ·by_cases hb:a∈tabs.map (·.2)
   ·have z':=(if_pos hb).symm.trans z
    cases z'
   ·have z':=(if_neg hb).symm.trans z
    cases z'
 | none=>
  refine core (fun b=>if b=a then some (.frz { cls:=.type "list",data:=.seq vs.toArray } (.lst (ns.map V.int))) else if b∈tabs.map (·.2) then some (.tbl #[]) else none) (fun b=>?_) (fun q hq=>(if_neg (hTa q hq)).trans (if_pos (List.mem_map_of_mem hq))) (.inl (.inr ⟨{ cls:=.type "list",data:=.seq vs.toArray },if_pos rfl⟩)) (fun b u z=>?_) (fun _ _ _=>hk)
  ·by_cases hb:b=a
   ·exact .inr (.inl ⟨_,_,if_pos hb,hb⟩)
   ·by_cases hb2:b∈tabs.map (·.2)
    ·obtain ⟨q,hq,e⟩:=List.mem_map.mp hb2
     exact .inr (.inr ⟨(if_neg hb).trans (if_pos hb2),q,hq,e⟩)
    ·exact .inl ((if_neg hb).trans (if_neg hb2))
  ·by_cases hb:b=a
   ·have z':=(if_pos hb).symm.trans z
    cases z'
    subst hb
    exact ⟨ha,by rw [List.length_map]; exact hl,vs,_,rv,ha⟩
   ·have z:=(if_neg hb).symm.trans z
    by_cases hb2:b∈tabs.map (·.2)
    ·have z':=(if_pos hb2).symm.trans z
     cases z'
     obtain ⟨q,hq,rfl⟩:=List.mem_map.mp hb2
     exact (hT q hq).2
    ·have z':=(if_neg hb2).symm.trans z
     cases z'
def TabTop (q:Program) (K:PySem.W.Frag) (h:Heap):Prop:=∀ (x:Str) (d:DefRec) (c P:Addr),(recsOf q).find? (fun e=>e.name==x)=some d→PySem.W.tabIn K x=some (c,P)→PySem.W.CodeHd h c P∧h.get? P=some (PySem.W.tabObj #[])
theorem walk_ofT {l:PySem.W.OpenLaw} {n k:Nat} {q:Program} {loose:List Str} {XP:(Str→Option Value)→Heap→Prop} {YP:World→Heap→Prop} {d:DefRec} {K:Params→PySem.W.Frag} {CX:World→CXT} {sp:World→List (Addr × Addr)→Sp} {x:Str}
  (hn:l.most=some n) (hn2:n≤sizeLine) (hdf:d.params.defaults=[]) (hr:Room k callerA)
  (hY:∀ (w:World) (h:Heap),YP w h→(K w.params).In h)
  (F:∀ (w:World) (mg:Str→Option Value) (fa:Addr) (h:Heap),(K w.params).In h→h.Ns mainGlobals mg→mg d.name=some (.ref fa)→TabTop q (K w.params) h→
   PySem.W.noTabs (K w.params)=true∧∃ (fd:FuncData) (tabs:List (Addr × Addr)),PySem.W.TabsAt tabs h∧(∀ (s:Shared) (u:Value),BindsTo s fd ⟨[u],[]⟩ [(x,u)])∧
    ∀ base:Heap,(K w.params).In base→base.Ns mainGlobals mg→BltM mg base→FnOk l.prog w (K w.params) mg base (CX w) k fa fd [x] (sp w tabs))
  (hsp:∀ (w:World) (tabs:List (Addr × Addr)) (H:Hp) (a:Addr) (ns:List Int),ns.length≤n→(∀ q∈tabs,H q.2=some (.tbl #[]))→SqL (K w.params) H a (ns.map V.int)→sp w tabs [.ref a] H (fun v _=>v=.bl true) fun _ _ _=>False)
  (hCX:∀ (w:World) (H:Hp) (s:Shared) (e:Value) (s':Shared),CX w [] H s (fun _ _ _=>False) e s'→False) :
  PySem.W.WalkO q loose XP YP l.row.toRowW d [] (fun f vs=>PySem.call f vs):=by
 refine Att.attach_call hn hdf fun w s₀ s₁ mg mb fa o pm cd doc a vs ns G Y ho hd hcd hmg hobj hints hlen hg=>?_
 have KX:=hY w _ Y
 obtain ⟨h0,fd,tabs,hT,hb,hF⟩:=F w mg fa _ KX G.T.g hmg (fun x d c P hr ht=>PySem.W.tab_of G.T KX hr ht)
 exact law_callT KX G.T.g G.T.b G.T.builtins G.T.nolimit hg hobj hints (Nat.le_trans hlen hn2) hr hT h0 G.T.bmain hF hb (fun H hO hS=>hsp w tabs H a ns hlen hO hS) fun H e s'=>hCX w H s₁ e s'
theorem tabIn_of {K:PySem.W.Frag} {x:Str} {f c P:Addr} {oc oc':Value} {od od':Option Addr} {sl sl':Array (Option Value)} {fd:FuncData} {vs:Array Value} (a:PySem.W.nsIn K mainGlobals x=some (some (.ref f))) (l:K.lookup f=some ⟨oc,od,.func fd,sl⟩) (y:fd.code=.ref c)
  (v:K.lookup c=some ⟨oc',od',.fields vs,sl'⟩) (u:vs[11]? = some (.ref P)):PySem.W.tabIn K x=some (c,P):=by
 unfold PySem.W.tabIn
 rw [a]
 dsimp only
 rw [l]
 dsimp only
 rw [y]
 dsimp only
 rw [v]
 dsimp only
 rw [u]
theorem head_of {K:PySem.W.Frag} {h base:Heap} {c P:Addr} {o:Obj} (C:PySem.W.CodeHd h c P) (X:K.In h) (B:K.In base) (lk:K.lookup c=some o):PySem.W.CodeHd base c P:=by
 obtain ⟨o',vs,file,tf,flags,tg,inF,text,tt,e,r⟩:=C
 have:=X c o lk
 rw [this] at e
 cases e
 exact ⟨o,vs,file,tf,flags,tg,inF,text,tt,B c o lk,r⟩
end L2
namespace L2
open PySem PySem.Spec PyProof.Rows
section
variable {P:Program} {w:World} {A:Around} {E:Value→Shared→Prop} {s:Shared} {r:Addr} {x:Str}
end
section
variable {X:Cx}
end
end L2
namespace L2
open PySem PySem.Spec PyProof.Rows
structure BaseX (X:Cx) (σ:St) (base':Heap):Prop where
 sub:∀ b o,X.base.get? b=some o→base'.get? b=some o
 inj:∀ x y c,X.env.cells.lookup x=some c→X.env.cells.lookup y=some c→x=y
 has:∀ x,(X.env.kindOf x=some .cell∨X.env.kindOf x=some .free)→∃ c,X.env.cells.lookup x=some c
 cell:∀ x c,X.env.cells.lookup x=some c→∃ v,base'.IsCell c v
 val:∀ (i:Nat) (x:Str) (v:V),X.N[i]? = some x→σ[i]? = some (some v)→(X.env.kindOf x=some .cell∨X.env.kindOf x=some .free)→∃ u c,RelV v u∧X.env.cells.lookup x=some c∧base'.IsCell c (some u)
def isCellOf (X:Cx) (b:Addr):Bool:=X.env.cells.any fun p=>p.2==b && X.env.cells.lookup p.1==some b
theorem isCellOf_iff {X:Cx} {b:Addr}:isCellOf X b=true↔∃ x,X.env.cells.lookup x=some b:=by
 unfold isCellOf
 rw [List.any_eq_true]
 constructor
 ·rintro ⟨p,_,h⟩
  rw [Bool.and_eq_true] at h
  exact ⟨p.1,by simpa using h.2⟩
 ·rintro ⟨x,h⟩
  refine ⟨(x,b),PySem.mem_of_lookup h,?_⟩
  simp [h]
def hidL (X:Cx) (h:Heap):List Addr:=(List.range h.objs.size).filter fun b=>(X.base.get? b).isNone && !isCellOf X b
def baseOf (X:Cx) (h:Heap):Heap:=PySem.W.hideAll h (hidL X h)
section
variable {X:Cx} {pins:List (Addr × Obj)} {σ:St} {H:Hp} {s:Shared}
theorem not_hid {b:Addr} (h:(X.base.get? b).isSome=true∨isCellOf X b=true):b∉hidL X s.heap:=fun z=>by
 have:=(List.mem_filter.mp z).2
 rw [Bool.and_eq_true] at this
 rcases h with h | h
 ·cases e:X.base.get? b with
  | none=>rw [e] at h; cases h
  | some o=>rw [e] at this; cases this.1
 ·rw [h] at this
  cases this.2
theorem of_base {b:Addr} {o:Obj} (h:(baseOf X s.heap).get? b=some o):s.heap.get? b=some o∧((X.base.get? b).isSome=true∨isCellOf X b=true):=by
 have e:=PySem.W.of_hideAll _ h
 refine ⟨e,?_⟩
 by_cases c:(X.base.get? b).isSome=true∨isCellOf X b=true
 ·exact c
 ·have hm:b∈hidL X s.heap:=by
   refine List.mem_filter.mpr ⟨List.mem_range.mpr (Heap.lt_size e),?_⟩
   rw [Bool.and_eq_true]
   refine ⟨?_,?_⟩
   ·cases e2:X.base.get? b with
    | none=>rfl
    | some u=>exact absurd (.inl (by rw [e2]; rfl)) c
   ·cases e2:isCellOf X b with
    | false=>rfl
    | true=>exact absurd (.inr e2) c
  rw [show baseOf X s.heap=PySem.W.hideAll s.heap (hidL X s.heap) from rfl,PySem.W.hideAll_none _ hm] at h
  cases h
theorem Inv.baseX (I:Inv X pins σ H s):BaseX X σ (baseOf X s.heap):=by
 have cellK:∀ {x:Str} {c:Addr} {v:Option Value},X.env.cells.lookup x=some c→s.heap.IsCell c v→(baseOf X s.heap).IsCell c v:=fun {x c v} e ⟨o,ho,hd⟩=>
  ⟨o,PySem.W.hideAll_get _ ho (not_hid (.inr (isCellOf_iff.mpr ⟨x,e⟩))),hd⟩
 refine ⟨fun b o e=>PySem.W.hideAll_get _ (I.bk b o e) (not_hid (.inl (by rw [e]; rfl))),I.ok.inj,I.ok.has,fun x c e=>?_,fun i x v h1 h2 h3=>?_⟩
 ·obtain ⟨v,z⟩:=I.cell x c e
  exact ⟨v,cellK e z⟩
 ·obtain ⟨m,_,hl⟩:=I.loc
  have hv:Vis X.env.scope x:=by
   rcases h3 with h3 | h3
   ·exact .inr (.inl h3)
   ·exact .inr (.inr h3)
  obtain ⟨u,r,l⟩:=hl i x v h1 h2 hv
  rcases l with ⟨hk,_⟩ | ⟨hk,c,e,z⟩
  ·rcases h3 with h3 | h3 <;> rw [h3] at hk <;> cases hk
  ·exact ⟨u,c,r,e,cellK e z⟩
theorem Inv.env0X (I:Inv X pins σ H s) (hfn:∀ x,X.fn x=true):Env0 X.prog X.w X.K X.mg (baseOf X s.heap) X.A X.stack s H:=by
 have B:=I.baseX
 have bs:∀ b o,(baseOf X s.heap).get? b=some o→s.heap.get? b=some o∧H b=none:=fun b o e=>by
  obtain ⟨e1,h⟩:=of_base e
  refine ⟨e1,?_⟩
  rcases h with h | h
  ·obtain ⟨u,hu⟩:=Option.isSome_iff_exists.mp h
   exact (I.bs b u hu).2
  ·obtain ⟨x,hx⟩:=isCellOf_iff.mp h
   exact I.freeC x b hx
 refine ⟨I.ok.frames,?_,bs,Nat.le_of_eq (PySem.W.hideAll_size _ _),?_,I.stkFree,I.hok,I.bare⟩
 ·obtain ⟨k,g,⟨mb,h1,h2⟩,nl⟩:=I.ok.mod
  exact ⟨k.keeps B.sub,g.keeps B.sub,⟨mb,h1.keeps B.sub,h2⟩,nl.keeps B.sub⟩
 ·have all:∀ (l:List Env),(∀ b∈frs l,b∈X.env.locals :: X.fs)→s.heap.FunFrames X.base l→s.heap.FunFrames (baseOf X s.heap) l:=by
   intro l
   induction l with
   | nil=>intro _ _; trivial
   | cons env r ih=>
    intro hs hl
    obtain ⟨hk,⟨L,o,hf,hn,ho,hd⟩,hr⟩:=hl
    refine ⟨hk,⟨L,o,hf,?_,ho,hd⟩,ih (fun b hb=>hs b (by unfold frs; rw [List.filterMap_cons,hf]; exact List.mem_cons_of_mem _ hb)) hr⟩
    cases q:(baseOf X s.heap).get? L with
    | none=>rfl
    | some u=>
     obtain ⟨e1,h⟩:=of_base q
     rcases h with h | h
     ·rw [hn] at h; cases h
     ·obtain ⟨x,hx⟩:=isCellOf_iff.mp h
      rcases List.mem_cons.mp (hs L (by unfold frs; rw [List.filterMap_cons,hf]; exact List.mem_cons_self)) with z | z
      ·exact absurd z (I.cne x L hx)
      ·obtain ⟨_,o2,ho2,_⟩:=I.ok.funs.mem z
       exact absurd (Nat.lt_of_lt_of_le (Heap.lt_size ho2) (I.ok.cab x L (hfn x) hx)) (Nat.lt_irrefl _)
  exact all _ I.stkSub I.stack
end
def tCallE (X:Cx) (x:Str) (k:Nat) (t:TA):TE:=fun σ H Q=>t σ H fun vs H1=>∀ base':Heap,BaseX X σ base'→
 ∃ (ps:List Str) (sp:Sp) (_:Cal X.prog X.w X.K X.mg base' x k ps sp),sp vs H1 Q E0
theorem pe_cE {X:Cx} {x:Str} {k:Nat} {ps:List Str} {sp:Sp} {p pos:Pos} {e:Expr} {es:List Expr} {t:TA} (C:Cal X.prog X.w X.K X.mg X.base x k ps sp) (hr:Room k X.A) (ha:PA X (e :: es) t) (hg:Gl X x:=by rfl) (hfn:∀ x,X.fn x=true:=by intro _; rfl)
  (hdb:(x==("__debug__" : Str))=false:=by decide) (he:starEach (e :: es) X.env=(false,eval e X.env) :: starEach es X.env:=by rfl) (hpl:(backTo pos (starEach es X.env)).any (·.1)=false:=by rfl) :
  PE X (.Call (.Name x p) (e :: es) [] pos) (tCallE X x k t):=by
 intro pins s σ H Q I h
 refine wpAny_Call_Name_kw (ld_glob I hg C.at_ ?_ hdb)
 refine PySem.W.callWith_K (h₀:=X.base) I.ok.mod.kin C.kp (thn (ha pos pins s σ H _ I h) fun us s1 ⟨vs,H1,I1,r,q⟩=>⟨I1.kIn,?_⟩) he hpl
 obtain ⟨ps',sp',C',hsp⟩:=q _ I1.baseX
 have ef:C'.f=C.f:=by
  have:=C'.at_.symm.trans C.at_
  injection this with this
  injection this
 have hl:us.length=ps'.length:=by rw [← r.length]; exact C'.ok.len _ _ _ _ hsp
 have hb:=C'.b s1 us I1.kIn (by rw [List.append_nil]; exact hl)
 rw [List.append_nil] at hb
 have run:=C'.ok.run X.A X.stack s1 H1 ⟨us,[]⟩ us vs Q E0 hr (I1.env0X hfn) hb r hsp
 rw [ef] at run
 show wpAny _ _ (call (.ref C.f) ([] ++ us)) _ _ s1
 refine wpAny_call (codeAny_mono run fun r s' hq=>?_)
 cases r with
 | error e=>exact hq.elim
 | ok fl=>
  cases fl with
  | ret u=>exact I1.after hq
  | next=>exact False.elim hq
  | brk=>exact False.elim hq
  | cont=>exact False.elim hq
theorem BaseX.cl {X:Cx} {σ:St} {base':Heap} (B:BaseX X σ base') {N ps:List Str} {scope:Scope} {fv:List V} {sc:Scope} (fr:List Nat) (hsc:X.env.scope=sc) (hfr:∀ y∈scope.names,y.2=NameKind.free→sc.names.lookup y.1=some .cell∨sc.names.lookup y.1=some .free)
  (hlen:N.length=ps.length+fr.length) (hfl:fv.length=fr.length) (hN:∀ (j:Nat) i x,fr[j]? = some i→N[ps.length+j]? = some x→scope.names.lookup x=some .free∧X.N[i]? = some x)
  (hv:∀ (j:Nat) i v,fr[j]? = some i→fv[j]? = some v→σ[i]? = some (some v)):LamCl base' N ps scope (clOf X.env scope.names []) fv:=by
 subst hsc
 have kind:∀ x,scope.names.lookup x=some .free→(X.env.kindOf x=some .cell∨X.env.kindOf x=some .free):=fun x hx=>hfr _ (PySem.mem_of_lookup hx) rfl
 have good:ClGood X.env (clOf X.env scope.names []):=clOf_good _ _ fun y c e=>by simp at e
 have look:∀ x c,(clOf X.env scope.names []).lookup x=some c→X.env.cells.lookup x=some c:=fun x c e=>by
  have h1:=good x c e
  rcases clOf_mem _ _ e with z | z
  ·simp at z
  ·obtain ⟨c2,e2⟩:=B.has x (hfr _ z rfl)
   rw [e2] at h1
   rw [e2]
   exact congrArg some h1.symm
 have hasC:∀ x,scope.names.lookup x=some .free→∃ c,(clOf X.env scope.names []).lookup x=some c:=fun x hx=>clOf_has _ _ (.inr (PySem.mem_of_lookup hx))
 refine ⟨fun x y c h1 h2=>B.inj x y c (look x c h1) (look y c h2),hasC,fun x c e=>B.cell x c (look x c e),by rw [hlen,hfl],fun j x v h1 h2=>?_⟩
 have hj:j < fr.length:=by rw [← hfl]; exact (List.getElem?_eq_some_iff.mp h2).1
 have hfj:fr[j]? = some fr[j]:=List.getElem?_eq_getElem hj
 obtain ⟨hf,hX⟩:=hN j _ x hfj h1
 obtain ⟨u,c,r,e,z⟩:=B.val _ x v hX (hv j _ v hfj h2) (kind x hf)
 obtain ⟨c2,e2⟩:=hasC x hf
 have:=look x c2 e2
 rw [e] at this
 cases this
 exact ⟨hf,c,u,e2,r,z⟩
section
variable {X:Cx}
end
end L2
namespace L2
open PySem PySem.Spec PyProof.Rows
theorem dep_mem {ds:List Dt} {d:Dt} (h:d∈ds):d.dep < (Dt.tup ds).dep:=by
 have:∀ (l:List Dt),d∈l→d.dep≤(l.map Dt.dep).foldr max 0:=by
  intro l
  induction l with
  | nil=>intro h; cases h
  | cons a l ih=>
   intro h
   rw [List.map_cons,List.foldr_cons]
   rcases List.mem_cons.mp h with e | e
   ·rw [e]; exact Nat.le_max_left _ _
   ·exact Nat.le_trans (ih e) (Nat.le_max_right _ _)
 have h2:=this ds h
 simp only [Dt.dep]
 omega
theorem dep_memL {ds:List Dt} {d:Dt} (h:d∈ds):d.dep < (Dt.lst ds).dep:=by
 have:=dep_mem h
 simp only [Dt.dep] at this ⊢
 exact this
section
variable {P:Program} {w:World} {H:Hp} {s:Shared}
theorem tup_here (ok:HOk P w H s.heap) {a:Addr} {xs:List V} (h:H a=some (.tup xs)):∃ its:List Value,Vals xs its∧s.heap.IsTuple a its.toArray:=by
 obtain ⟨_,its,r,t⟩:=ok a _ h
 exact ⟨its,r,t⟩
theorem lst_here (ok:HOk P w H s.heap) {a:Addr} {xs:List V} (h:H a=some (.lst xs)):∃ its:List Value,Vals xs its∧s.heap.IsList a its.toArray:=by
 obtain ⟨_,its,n,r,t⟩:=ok a _ h
 exact ⟨its,r,⟨_,t,rfl,n,rfl⟩⟩
theorem all_yes (n:Nat):((List.range n).all fun _=>true)=true:=by
 rw [List.all_eq_true]
 intros
 rfl
theorem eqAt_den (ok:HOk P w H s.heap):∀ (n:Nat) (d:Dt) (A:Around) (x y:V) (u v:Value),d.dep≤n→A.units+n < cLine→Den H x d→Den H y d→RelV x u→RelV y v→SeqAt.EqAt A s u v true:=by
 intro n
 induction n with
 | zero=>
  intro d A x y u v hd hu hx hy rx ry
  cases hx with
  | non=>cases hy; cases rx; cases ry; exact SeqAt.EqAt.same _
  | bl b=>cases hy; cases rx; cases ry; exact SeqAt.EqAt.same _
  | int i=>
   cases hy
   obtain ⟨t,rfl⟩:=rx
   obtain ⟨t',rfl⟩:=ry
   have:=SeqAt.EqAt.int_int (A:=A) (s:=s) i t i t'
   rwa [beq_self_eq_true] at this
  | str z=>
   cases hy
   obtain ⟨t,rfl⟩:=rx
   obtain ⟨t',rfl⟩:=ry
   have:=SeqAt.EqAt.str_str (A:=A) (s:=s) z t z t'
   rwa [beq_self_eq_true] at this
  | lst=>simp [Dt.dep] at hd
  | tup=>simp [Dt.dep] at hd
 | succ n ih=>
  intro d A x y u v hd hu hx hy rx ry
  cases hx with
  | non=>cases hy; cases rx; cases ry; exact SeqAt.EqAt.same _
  | bl b=>cases hy; cases rx; cases ry; exact SeqAt.EqAt.same _
  | int i=>
   cases hy
   obtain ⟨t,rfl⟩:=rx
   obtain ⟨t',rfl⟩:=ry
   have:=SeqAt.EqAt.int_int (A:=A) (s:=s) i t i t'
   rwa [beq_self_eq_true] at this
  | str z=>
   cases hy
   obtain ⟨t,rfl⟩:=rx
   obtain ⟨t',rfl⟩:=ry
   have:=SeqAt.EqAt.str_str (A:=A) (s:=s) z t z t'
   rwa [beq_self_eq_true] at this
  | @lst a xs ds ha hz hl hk=>
   cases hy with
   | @lst b ys _ hb hz' hl' hk'=>
    cases rx
    cases ry
    by_cases e:a=b
    ·subst e; exact SeqAt.EqAt.same _
    obtain ⟨i1,r1,p1⟩:=lst_here ok ha
    obtain ⟨i2,r2,p2⟩:=lst_here ok hb
    have sz1:i1.toArray.size=ds.length:=by rw [List.size_toArray,← hl]; exact r1.length.symm
    have sz2:i2.toArray.size=ds.length:=by rw [List.size_toArray,← hl']; exact r2.length.symm
    have:=SeqAt.RcAt.lists (A:=A) (e:=fun _=>true) p1 p2 (by rw [sz1,sz2]) (by omega) fun j h1 h2=>?_
    ·rw [all_yes] at this
     exact SeqAt.EqAt.of_refs e this
    have hj:j < ds.length:=by omega
    have hjd:ds[j]? = some ds[j]:=List.getElem?_eq_getElem hj
    have hjx:xs[j]? = some (xs[j]'(by omega)):=List.getElem?_eq_getElem (by omega)
    have hjy:ys[j]? = some (ys[j]'(by omega)):=List.getElem?_eq_getElem (by omega)
    obtain ⟨u1,e1,q1⟩:=r1.get hjx
    obtain ⟨u2,e2,q2⟩:=r2.get hjy
    have g1:i1.toArray[j]=u1:=by
     have:i1[j]? = some i1.toArray[j]:=by simp at h1 ⊢
     rw [e1] at this
     exact (Option.some.inj this).symm
    have g2:i2.toArray[j]=u2:=by
     have:i2[j]? = some i2.toArray[j]:=by simp at h2 ⊢
     rw [e2] at this
     exact (Option.some.inj this).symm
    rw [g1,g2]
    have hdm:=dep_memL (List.getElem_mem hj)
    exact ih ds[j] A.in1 _ _ u1 u2 (by omega) (by show A.units+1+n < cLine; omega) (hk j _ _ hjx hjd) (hk' j _ _ hjy hjd) q1 q2
  | @tup a xs ds ha hz hl hk=>
   cases hy with
   | @tup b ys _ hb hz' hl' hk'=>
    cases rx
    cases ry
    by_cases e:a=b
    ·subst e; exact SeqAt.EqAt.same _
    obtain ⟨i1,r1,p1⟩:=tup_here ok ha
    obtain ⟨i2,r2,p2⟩:=tup_here ok hb
    have sz1:i1.toArray.size=ds.length:=by rw [List.size_toArray,← hl]; exact r1.length.symm
    have sz2:i2.toArray.size=ds.length:=by rw [List.size_toArray,← hl']; exact r2.length.symm
    have:=SeqAt.RcAt.tuples (A:=A) (e:=fun _=>true) p1 p2 (by omega) fun j h1 h2=>?_
    ·rw [all_yes,sz1,sz2,beq_self_eq_true,Bool.and_self] at this
     exact SeqAt.EqAt.of_refs e this
    have hj:j < ds.length:=by omega
    have hjd:ds[j]? = some ds[j]:=List.getElem?_eq_getElem hj
    have hjx:xs[j]? = some (xs[j]'(by omega)):=List.getElem?_eq_getElem (by omega)
    have hjy:ys[j]? = some (ys[j]'(by omega)):=List.getElem?_eq_getElem (by omega)
    obtain ⟨u1,e1,q1⟩:=r1.get hjx
    obtain ⟨u2,e2,q2⟩:=r2.get hjy
    have g1:i1.toArray[j]=u1:=by
     have:i1[j]? = some i1.toArray[j]:=by simp at h1 ⊢
     rw [e1] at this
     exact (Option.some.inj this).symm
    have g2:i2.toArray[j]=u2:=by
     have:i2[j]? = some i2.toArray[j]:=by simp at h2 ⊢
     rw [e2] at this
     exact (Option.some.inj this).symm
    rw [g1,g2]
    have hdm:=dep_mem (List.getElem_mem hj)
    exact ih ds[j] A.in1 _ _ u1 u2 (by omega) (by show A.units+1+n < cLine; omega) (hk j _ _ hjx hjd) (hk' j _ _ hjy hjd) q1 q2
end
section
variable {X:Cx}
inductive rEqDI (neg:Bool) (x:V) (y:V) (H:Hp) (Q:VK):Prop
 | mk (ds:_) (h1:(Dt.tup ds).dep≤150) (h2:Den H x (.tup ds)) (h3:Den H y (.tup ds)) (h4:Q (.bl (!neg)) H):rEqDI neg x y H Q
def rEqD (neg:Bool):R2:=fun x y H Q=>rEqDI neg x y H Q
theorem pairs_den {pins:List (Addr × Obj)} {s:Shared} {σ:St} {H:Hp} {x y:V} {u v:Value} {ds:List Dt} (hu:X.A.units+160 < cLine) (I:Inv X pins σ H s) (hd:(Dt.tup ds).dep≤150) (hx:Den H x (.tup ds)) (hy:Den H y (.tup ds)) (rx:RelV x u) (ry:RelV y v) :
  ∃ (a b:Addr) (i1 i2:List Value),u=.ref a∧v=.ref b∧s.heap.IsTuple a i1.toArray∧s.heap.IsTuple b i2.toArray∧i1.toArray.size=ds.length∧i2.toArray.size=ds.length∧∀ j (h1:j < i1.toArray.size) (h2:j < i2.toArray.size),SeqAt.EqAt X.A.in1 s i1.toArray[j] i2.toArray[j] true:=by
 cases hx with
 | @tup a xs _ ha hz hl hk=>
  cases hy with
  | @tup b ys _ hb hz' hl' hk'=>
   obtain ⟨i1,r1,p1⟩:=tup_here I.hok ha
   obtain ⟨i2,r2,p2⟩:=tup_here I.hok hb
   have sz1:i1.toArray.size=ds.length:=by rw [List.size_toArray,← hl]; exact r1.length.symm
   have sz2:i2.toArray.size=ds.length:=by rw [List.size_toArray,← hl']; exact r2.length.symm
   refine ⟨a,b,i1,i2,rx,ry,p1,p2,sz1,sz2,fun j h1 h2=>?_⟩
   have hj:j < ds.length:=by omega
   have hjd:ds[j]? = some ds[j]:=List.getElem?_eq_getElem hj
   have hjx:xs[j]? = some (xs[j]'(by omega)):=List.getElem?_eq_getElem (by omega)
   have hjy:ys[j]? = some (ys[j]'(by omega)):=List.getElem?_eq_getElem (by omega)
   obtain ⟨u1,e1,q1⟩:=r1.get hjx
   obtain ⟨u2,e2,q2⟩:=r2.get hjy
   have g1:i1.toArray[j]=u1:=by
    have:i1[j]? = some i1.toArray[j]:=by simp at h1 ⊢
    rw [e1] at this
    exact (Option.some.inj this).symm
   have g2:i2.toArray[j]=u2:=by
    have:i2[j]? = some i2.toArray[j]:=by simp at h2 ⊢
    rw [e2] at this
    exact (Option.some.inj this).symm
   rw [g1,g2]
   have hdm:=dep_mem (List.getElem_mem hj)
   exact eqAt_den I.hok 150 ds[j] X.A.in1 _ _ u1 u2 (by omega) (by show X.A.units+1+150 < cLine; omega) (hk j _ _ hjx hjd) (hk' j _ _ hjy hjd) q1 q2
theorem op_eqD (hu:X.A.units+160 < cLine):OpR X (compareOp .Eq) (rEqD false):=by
 intro pins s σ H x y v u Q I rx ry h
 obtain ⟨ds,hd,hx,hy,q⟩:=h
 obtain ⟨a,b,i1,i2,rfl,rfl,p1,p2,s1,s2,he⟩:=pairs_den hu I hd hx hy rx ry
 refine SeqAt.eq_tupleAt p1 p2 (by omega) (e:=fun _=>true) he ⟨.bl true,H,I,?_,q⟩
 rw [all_yes,s1,s2,beq_self_eq_true]
 rfl
theorem op_neD (hu:X.A.units+160 < cLine):OpR X (compareOp .NotEq) (rEqD true):=by
 intro pins s σ H x y v u Q I rx ry h
 obtain ⟨ds,hd,hx,hy,q⟩:=h
 obtain ⟨a,b,i1,i2,rfl,rfl,p1,p2,s1,s2,he⟩:=pairs_den hu I hd hx hy rx ry
 refine SeqAt.RcNeAt.tuples p1 p2 (by omega) (e:=fun _=>true) he _ _ _ _ ⟨.bl false,H,I,?_,q⟩
 rw [all_yes,s1,s2,beq_self_eq_true]
 rfl
theorem hd_of {A:Around} {k:Nat} (hr:Room k A):A.units+160 < cLine:=by have:=hr.un; omega
end
end L2
namespace L2
open PySem PySem.Spec PyProof.Rows
def Itk (a:Addr) (o:Obj) (kvs:List (Key × V)):It:=
 ⟨fun i H=>i < kvs.length∧H a=some (.frz o (.dK kvs)),fun i H x H'=>H'=H∧∃ k v,kvs[i]? = some (k,v)∧x=kV k,fun i H=>i=kvs.length∧H a=some (.frz o (.dK kvs))⟩
theorem rel_of_is {P:Program} {w:World} {k:Key} {u:Value} (h:(mixKind P w).is k u=true):RelV (kV k) u:=by
 rcases keyIs_shape (show keyIs k u=true from h) with ⟨i,t,rfl,rfl⟩ | ⟨x,t,rfl,rfl⟩
 ·exact ⟨t,rfl⟩
 ·exact ⟨t,rfl⟩
theorem kv_len {kvs:List (Key × V)} {vs:List (Key × Value)} (r:KV kvs vs):kvs.length=vs.length:=Paired.length r
theorem kv_get:∀ {kvs:List (Key × V)} {vs:List (Key × Value)} {i:Nat} {k:Key} {x:Value},KV kvs vs→vs[i]? = some (k,x)→∃ v,kvs[i]? = some (k,v)
 | _,_,i,_,_,.nil,h=>by simp at h
 | _,_,0,k,x,.cons (a:=p) (b:=q) r _,h=>by
  cases h
  obtain ⟨e,_⟩:=r
  obtain ⟨pk,pv⟩:=p
  have e':pk=k:=e
  subst e'
  exact ⟨pv,rfl⟩
 | _,_,i+1,k,x,.cons _ t,h=>by
  obtain ⟨v,e⟩:=kv_get (i:=i) t (by simpa using h)
  exact ⟨v,by simpa using e⟩
theorem turn_dict {P:Program} {w:World} {K:PySem.W.Frag} {tg:Expr} (a it:Addr) (o:Obj) (kvs:List (Key × V)) (vs:List (Key × Value)) (es:Array DictEntry) (ep:Nat) (rel:KV kvs vs) (ho:∀ h:Heap,h.get? a=some o→h.DictAt (mixKind P w) a vs ep) :
  Turn P w K tg (Itk a o kvs) [it] it (fun i h=>h.IsKeyIter it a i vs.length ep) where
 mem:=by simp
 obj:=fun i h st b hb=>by
  have e:b=it:=by simpa using hb
  subst e
  obtain ⟨o,e,c,d⟩:=st
  exact ⟨o,e,fun v z=>by rw [d] at z; cases z⟩
 keep:=fun i h h' st k=>st.at fun o e=>k it (by simp) o e
 item:=by
  intro X hP hw hK hc i pins s σ H E I hf st hg
  subst hP hw hK
  obtain ⟨hi,hq⟩:=hg
  have hd:=ho s.heap (I.hok a _ hq).1
  have hl:=kv_len rel
  have hx:vs[i]? = some (vs[i]'(by omega)):=List.getElem?_eq_getElem (by omega)
  obtain ⟨f0,f1,f2,f3,f4,f5⟩:=hf it (by simp)
  refine wpAny_pyNext_dict_item (k:=(vs[i]'(by omega)).1) (v:=(vs[i]'(by omega)).2) st hd hx fun key h' hk st' sb=>?_
  have I1:Inv X pins σ H { s with heap:=h' }:=I.turned (t':=s.toks) (fun b o hb e=>(sb.2 b hb).trans e) f0 f1 f3 f4 f5
  obtain ⟨oi,e,c,d⟩:=id st'
  obtain ⟨v,hv⟩:=kv_get (k:=(vs[i]'(by omega)).1) (x:=(vs[i]'(by omega)).2) rel hx
  exact ⟨key,rfl,go_of (s:={ s with heap:=h' }) e c d (by decide) ⟨kV _,H,I1,rel_of_is hk,⟨rfl,_,v,hv,rfl⟩,st',fun b hb=>(hf b hb).1⟩⟩
 done:=by
  intro X hP hw hK hc i pins s σ H E I hf st hg
  subst hP hw hK
  obtain ⟨hi,hq⟩:=hg
  have hd:=ho s.heap (I.hok a _ hq).1
  have hl:=kv_len rel
  obtain ⟨f0,f1,f2,f3,f4,f5⟩:=hf it (by simp)
  exact wpAny_pyNext_dict_end (I.ok.hd hc) st hd (List.getElem?_eq_none (by omega)) fun h' eb=>⟨rfl,I.turned (t':=s.toks) (fun b o hb e=>eb b o hb e) f0 f1 f3 f4 f5⟩
 self:=fun _ _ _ _ _ st h=>wpAny_pyIter_keyiter st h
section
variable {X:Cx} {tg:Expr}
def iDict (te:TE):TI:=fun σ H R=>te σ H fun x H1=>∃ a kvs,x=.ref a∧((H1 a=some (.dK kvs)∧∀ o,R (Itk a o kvs) (upd H1 a (.frz o (.dK kvs))))∨∃ o,H1 a=some (.frz o (.dK kvs))∧R (Itk a o kvs) H1)
theorem pi_dict {e:Expr} {te:TE} (he:PE X e te):PI X tg e (iDict te):=by
 intro pins s σ H R I h
 refine thn (he pins s σ H _ I h) fun v s1 ⟨x,H1,I1,r1,q1⟩=>?_
 obtain ⟨a,kvs,e,q⟩:=q1
 subst e
 cases r1
 have key:∀ (o:Obj) (H2:Hp),Inv X pins σ H2 s1→H2 a=some (.frz o (.dK kvs))→R (Itk a o kvs) H2→wpAny (model X.prog X.w) X.A (pyIter (.ref a)) (PIE X pins σ tg R) X.xe s1:=by
  intro o H2 I2 h2 q2
  obtain ⟨ho,_,hsm,vs,rel,dd⟩:=I2.hok a _ h2
  obtain ⟨o',es,ep,ho',hx,hdat,hk,hp,hn⟩:=dd
  rw [ho] at ho'
  cases ho'
  have at_:∀ h:Heap,h.get? a=some o→h.DictAt (mixKind X.prog X.w) a vs ep:=fun h e=>⟨o,es,e,hx,hdat,hk,hp,hn⟩
  refine wpAny_pyIter_dict hsm (at_ s1.heap ho) ?_
  refine ⟨s1.heap.objs.size,[s1.heap.objs.size],_,_,H2,rfl,I2.kept (t':=s1.toks) fun b o e=>Heap.get?_push_of_some _ e,turn_dict a _ o kvs vs es ep rel at_,⟨_,Heap.get?_push_size _ rfl,rfl,rfl⟩,fun b hb=>?_,q2⟩
  have e:b=s1.heap.objs.size:=by simpa using hb
  subst e
  exact I2.fpOk (Nat.le_refl _) (I2.hok.fresh (Nat.le_refl _))
 rcases q with ⟨hd,q⟩ | ⟨o,hd,q⟩
 ·obtain ⟨hz,hsm,vs,rel,dd⟩:=I1.hok a _ hd
  obtain ⟨o,es,ep,ho,rest⟩:=id dd
  have I2:Inv X pins σ (upd H1 a (.frz o (.dK kvs))) s1:=I1.write (x:=a) (e:=a) (t':=s1.toks) (h':=s1.heap) (by rw [hd]; exact True.intro) (.inl rfl) (fun b u _ e=>e) ⟨o,ho⟩ ⟨ho,hz,hsm,vs,rel,dd⟩
  exact key o _ I2 upd_same (q o)
 ·exact key o H1 I1 hd q
theorem for_dict {a:Addr} {o:Obj} {kvs:List (Key × V)} {g:TG} {tb:TS} {D:Ends} {σ:St} {H:Hp} (Pv:Nat→St→Hp→Prop) (h0:Pv 0 σ H) (hl:∀ i σ H,i≤kvs.length→Pv i σ H→H a=some (.frz o (.dK kvs)))
  (hs:∀ i k v σ H,kvs[i]? = some (k,v)→Pv i σ H→g (kV k) σ H fun σ2 H2=>tb { D with nx:=Pv (i+1),ct:=Pv (i+1),bk:=D.nx } σ2 H2) (hd:∀ σ H,Pv kvs.length σ H→D.nx σ H) :
  ∃ W:Nat→Nat→St→Hp→Prop,(∃ m,W 0 m σ H)∧∀ i m σ H,W i m σ H→
   ((Itk a o kvs).stop i H∧D.nx σ H)∨((Itk a o kvs).go i H∧∃ N:St→Hp→Prop,(∀ σ' H',N σ' H'→∃ m',m' < m∧W (i+1) m' σ' H')∧∀ x H',(Itk a o kvs).yld i H x H'→g x σ H' fun σ2 H2=>tb { D with nx:=N,ct:=N,bk:=D.nx } σ2 H2):=by
 refine ⟨fun i m σ H=>m=kvs.length - i∧i≤kvs.length∧Pv i σ H,⟨kvs.length,by simp,Nat.zero_le _,h0⟩,?_⟩
 rintro i m σ H ⟨rfl,hi,p⟩
 have q:=hl i σ H hi p
 by_cases hlt:i < kvs.length
 ·refine .inr ⟨⟨hlt,q⟩,Pv (i+1),fun σ' H' p'=>⟨kvs.length - (i+1),by omega,rfl,hlt,p'⟩,fun x H' y=>?_⟩
  obtain ⟨e,k,v,hk,ex⟩:=y
  subst e ex
  exact hs i k v σ _ hk p
 ·have e:i=kvs.length:=by omega
  subst e
  exact .inl ⟨⟨rfl,q⟩,hd σ H p⟩
end
end L2
namespace L2
open PySem PySem.Spec PyProof.Rows
section
variable {P:Program} {w:World} {A:Around} {E:Value→Shared→Prop} {s:Shared}
theorem drawT_item {it t:Addr} {i:Nat} {us:Array Value} {x:Value} {Q:Value→Shared→Prop} (hi:s.heap.IsTupleIter it t i) (ht:s.heap.IsTuple t us) (hx:us[i]? = some x)
  (q:∀ h',h'.IsTupleIter it t (i+1)→Heap.SameBut it s.heap h'→Q x { s with heap:=h' }):wpAny (model P w) A (Builtin.SmallTypes.nextOf (.ref it)) Q E s:=by
 obtain ⟨o,e0,ec,ed⟩:=id hi
 obtain ⟨ot,e1,_,n,e2⟩:=ht
 unfold Builtin.SmallTypes.nextOf
 refine wpAny_bind (wpAny_callSpecial?_slot (name:=Str.ofString "__next__") hi.typeIs F.slot_tuple_iterator_next (wpAny_call_entry F.slot_tuple_iterator_next hi.typeIs F.entry_tuple_iterator_next ?_ (F.args_tuple_iterator_next_1 _)))
 refine wpAny_bind (m:=field (.ref it) 0) (wpAny_field e0 ed (x:=.ref t) rfl ?_)
 show wpAny _ _ (ite ((Value.ref t==Value.none)=true) _ _) _ _ s
 refine (if_neg (show ¬ (Value.ref t==Value.none)=true from Bool.false_ne_true))▸?_
 refine wpAny_bind (m:=field (.ref it) 1) (wpAny_field e0 ed (x:=.int i 0) rfl ?_)
 refine wpAny_bind (m:=seqItems? (.ref t)) (wpAny_seqItems e1 e2 ?_)
 simp only [Int.toNat_natCast,hx]
 refine wpAny_bind (wpAny_setField e0 ed (by simp) (wpAny_pure ⟨x,rfl,wpAny_pure (q _ ⟨_,Heap.get?_update_self _ e0 (Obj.isFreed_of_fields (Obj.data_mapFields ed _)),(Obj.cls_mapFields ..).trans ec,?_⟩ (Heap.SameBut.update ..))⟩))
 rw [Obj.data_mapFields ed]
 simp [rawInt]
theorem drawT_end {it t:Addr} {i:Nat} {us:Array Value} {Q:Value→Shared→Prop} (hh:A.handled=none) (hi:s.heap.IsTupleIter it t i) (ht:s.heap.IsTuple t us) (hx:us[i]? = none)
  (q:∀ h' e,Heap.ExtBut it s.heap h'→(∃ o,h'.get? e=some o∧o.cls=.type "StopIteration")→E (.ref e) { s with heap:=h' }):wpAny (model P w) A (Builtin.SmallTypes.nextOf (.ref it)) Q E s:=by
 obtain ⟨o,e0,ec,ed⟩:=id hi
 obtain ⟨ot,e1,_,n,e2⟩:=ht
 unfold Builtin.SmallTypes.nextOf
 refine wpAny_bind (wpAny_callSpecial?_slot (name:=Str.ofString "__next__") hi.typeIs F.slot_tuple_iterator_next (wpAny_call_entry F.slot_tuple_iterator_next hi.typeIs F.entry_tuple_iterator_next ?_ (F.args_tuple_iterator_next_1 _)))
 refine wpAny_bind (m:=field (.ref it) 0) (wpAny_field e0 ed (x:=.ref t) rfl ?_)
 show wpAny _ _ (ite ((Value.ref t==Value.none)=true) _ _) _ _ s
 refine (if_neg (show ¬ (Value.ref t==Value.none)=true from Bool.false_ne_true))▸?_
 refine wpAny_bind (m:=field (.ref it) 1) (wpAny_field e0 ed (x:=.int i 0) rfl ?_)
 refine wpAny_bind (m:=seqItems? (.ref t)) (wpAny_seqItems e1 e2 ?_)
 simp only [Int.toNat_natCast,hx]
 refine wpAny_bind (wpAny_rule (wpAny_bind (wpAny_setField e0 ed (by simp) (wpAny_bind (m:=newExc (.type "StopIteration") []) ?_))))
 simp only [newExc,newTuple,raiseNew]
 refine wpAny_bind (wpAny_newObj_type (wpAny_bind (m:=firstArgMember _ _) (wpAny_of_eq (a:=Value.none) (by first | rfl | (simp only [firstArgMember]; rfl)) (wpAny_newObj_type ?_ (by size_fits)))) (by size_fits))
 refine wpAny_bind (wpAny_handled ?_)
 first | rw [show A.in1.handled=none from hh] | rw [hh]
 exact wpAny_bind (wpAny_pure (wpAny_throw (q _ _ (((Heap.SameBut.update ..).extBut.push _).push _) ⟨_,Heap.get?_push_size _ rfl,rfl⟩)))
theorem drawsT (hh:A.handled=none) (it t:Addr) (hne:t≠it) (us:Array Value):Draws P w A it [it,t] us.size (fun i v=>us[i]? = some v) (fun i h=>h.IsTupleIter it t i∧h.IsTuple t us) where
 live:=fun _ _ ⟨⟨o,e,_⟩,_⟩=>⟨o,e⟩
 frame:=fun _ _ _ ⟨a,b⟩ k=>⟨a.at fun o e=>k it (by simp) o e,b.at fun o e=>k t (by simp) o e⟩
 item:=fun i s Q E hi st q=>drawT_item st.1 st.2 (x:=us[i]) (by simp [hi]) fun h' a b=>q _ h' s.toks (by simp [hi]) ⟨a,st.2.extBut b.extBut hne⟩ b
 done:=fun s Q E st q=>drawT_end hh st.1 st.2 (by simp) q
open AutoSeq1 (wpAny_loadPart') in
theorem enumNewT (t:Addr) (us:Array Value) (n:Nat) (dx:Option Addr) (sl:Array (Option Value)) :
  Meets (Builtin.«enumerate.__new__» ⟨[.type "enumerate",.ref t],[]⟩) (fun _ R s=>s.heap.get? t=some { cls:=.type "tuple",dict:=dx,data:=.seq us n,slots:=sl }∧
   R (.ok (.ret (.ref (s.heap.push { cls:=.type "tuple_iterator",data:=.fields #[.ref t,.int 0 0] }).objs.size))) { s with heap:=(s.heap.push { cls:=.type "tuple_iterator",data:=.fields #[.ref t,.int 0 0] }).push { cls:=.type "enumerate",data:=.fields #[.none,.bool false,.ref s.heap.objs.size,rawInt 0,.none,.none] } }):=
 .of_wp fun prog w A R s h=>by
  obtain ⟨hp,g,d,tk,os⟩:=s
  obtain ⟨ht,q⟩:=h
  have hsub:=sub_enumerate
  have hT:Heap.IsTuple (Shared.heap ⟨hp,g,d,tk,os⟩) t us:=⟨_,ht,rfl,n,rfl⟩
  wp_walk using wpAny_loadPart' ht
  refine wpAny_stack_any fun st=>wpAny_pure ?_
  split
  ·rename_i c _ _ _ _ _
   cases (c==Value.type "enumerate") <;> (wp_walk using wpAny_loadPart' ht,wpAny_pyIter_tuple hT; exact ⟨_,rfl,q⟩)
  ·wp_walk using wpAny_loadPart' ht,wpAny_pyIter_tuple hT
   exact ⟨_,rfl,q⟩
theorem call_enumT {t:Addr} {us:Array Value} {Q:Value→Shared→Prop} (hT:s.heap.IsTuple t us)
  (q:∀ h',IsEnum h' (s.heap.objs.size+1) s.heap.objs.size 0 .none→h'.IsTupleIter s.heap.objs.size t 0→h'.objs.size=s.heap.objs.size+2→(∀ b o,s.heap.get? b=some o→h'.get? b=some o)→Q (.ref (s.heap.objs.size+1)) { s with heap:=h' }) :
  wpAny (model P w) A (call (.type "enumerate") [.ref t]) Q E s:=by
 obtain ⟨⟨c,dx,dt,sl⟩,ht,ec,n,ed⟩:=hT
 obtain rfl:c=.type "tuple":=ec
 obtain rfl:dt=.seq us n:=ed
 refine callType_new F.called_enumerate (by decide) (F.typeCall_enumerate_1 _) (F.newCall_enumerate_1 _) (fun obj=>F.args_object_init_2 obj _) F.entry_enumerate_new (enumNewT t us n dx sl) ⟨ht,?_⟩
 have z:(s.heap.push { cls:=.type "tuple_iterator",data:=.fields #[.ref t,.int 0 0] }).objs.size=s.heap.objs.size+1:=Heap.size_push ..
 show _∧_
 have en:=Heap.get?_push_size (s.heap.push { cls:=.type "tuple_iterator",data:=.fields #[.ref t,.int 0 0] }) (o:={ cls:=.type "enumerate",data:=.fields #[.none,.bool false,.ref s.heap.objs.size,rawInt 0,.none,.none] }) rfl
 rw [z] at en ⊢
 exact ⟨⟨_,en,rfl⟩,q _ en ⟨_,Heap.get?_push_of_some _ (Heap.get?_push_size _ rfl),rfl,rfl⟩ (by rw [Heap.size_push,z]) fun b o x=>Heap.get?_push_of_some _ (Heap.get?_push_of_some _ x)⟩
end
theorem Inv.turnedL {X:Cx} {pins:List (Addr × Obj)} {σ:St} {H:Hp} {s:Shared} {h':Heap} {t':Nat} {fp:List Addr} (I:Inv X pins σ H s) (k:∀ b o,b∉fp→s.heap.get? b=some o→h'.get? b=some o) (hf:∀ b∈fp,FpOk X pins H b) :
  Inv X pins σ H { s with heap:=h',toks:=t' }:=by
 have nit:∀ b u,H b=some u→b∉fp:=fun b u e z=>by rw [(hf b z).1] at e; cases e
 refine I.step (g':=s.gens) (d':=s.drawn) (ch:=fp) (fun b hb=>?_) (fun b o _ _ hc e _=>k b o hc e) (fun b o _ _ hc e _=>⟨o.slots,k b o hc e⟩) (fun _ _ _ _ n=>n) (fun b o hc e=>⟨o,k b o hc e⟩) (fun _ _ e=>e) (fun _ _ _ e=>e) (fun b ps e=>⟨#[],by rw [e]; simp⟩) (fun m hm=>?_) (fun b u e=>?_) I.bare
 ·obtain ⟨_,f1,_,f3,f4,f5⟩:=hf b hb
  exact ⟨f3,f1,f4,f5⟩
 ·obtain ⟨o,es,ep,ho,r⟩:=hm
  exact ⟨o,es,ep,k _ o (fun z=>(hf _ z).2.1 rfl) ho,r⟩
 ·refine (I.hok b u e).stay (fun c v hc q=>k c v (fun y=>?_) q) (fun _ q=>q) fun _ _ q=>q
  rcases hc with z | z
  ·rw [z] at y
   exact nit b u e y
  ·exact nit c _ z y
def ItE (Sq:Hp→List V→Prop):It:=
 ⟨fun i H=>∃ xs x,Sq H xs∧xs[i]? = some x,fun i H x H'=>∃ p y,x=.ref p∧H p=none∧H'=upd H p (.tup [.int i,y])∧∀ xs,Sq H xs→xs[i]? = some y,fun i H=>∃ xs,Sq H xs∧xs.length=i⟩
theorem enum_step {X:Cx} {pins:List (Addr × Obj)} {σ:St} {H:Hp} {s:Shared} {h1 h2:Heap} {e it:Addr} {i:Nat} {tk t':Nat} {u:Value} {y:V} (I:Inv X pins σ H s) (hf:∀ b∈[e,it],FpOk X pins H b) (ru:RelV y u)
  (ht:h1.get? s.heap.objs.size=some { cls:=.type "tuple",data:=.seq #[.int i tk,u] }) (k:∀ b o,b≠e→b≠it→s.heap.get? b=some o→h1.get? b=some o) (sb:Heap.SameBut e h1 h2) (hel:e < s.heap.objs.size) (hil:it < s.heap.objs.size) :
  Inv X pins σ (upd H s.heap.objs.size (.tup [.int i,y])) { s with heap:=h2,toks:=t' }∧∀ b∈[e,it],upd H s.heap.objs.size (.tup [.int i,y]) b=none:=by
 have hn:∀ b∈[e,it],upd H s.heap.objs.size (.tup [.int i,y]) b=none:=fun b hb=>by
  have hb':b=e∨b=it:=by simpa using hb
  have hlt:b < s.heap.objs.size:=by
   rcases hb' with z | z
   ·rw [z]; exact hel
   ·rw [z]; exact hil
  rw [upd_ne (Nat.ne_of_lt hlt)]
  exact (hf b hb).1
 have I1:Inv X pins σ (upd H s.heap.objs.size (.tup [.int i,y])) { s with heap:=s.heap.push { cls:=.type "tuple",data:=.seq #[.int i tk,u] },toks:=s.toks }:=
  I.laid (fun b o q=>Heap.get?_push_of_some _ q) (Nat.le_refl _) ⟨(by show 2≤sizeLine; decide),[.int i tk,u],.cons ⟨tk,rfl⟩ (.cons ru .nil),⟨_,Heap.get?_push_size _ rfl,rfl,_,rfl⟩⟩
 have I2:=I1.turnedL (fp:=[e,it]) (h':=h2) (t':=t') (fun b o hb q=>?_) (fun b hb=>⟨hn b hb,(hf b hb).2⟩)
 ·exact ⟨I2,hn⟩
 have hb1:b≠e:=fun z=>hb (by simp [z])
 have hb2:b≠it:=fun z=>hb (by simp [z])
 refine (sb.2 b hb1).trans ?_
 rcases Heap.get?_push_cases q with ⟨z1,z2⟩ | z
 ·rw [z1,z2]
  exact ht
 ·exact k b o hb1 hb2 z
theorem turn_enumL {P:Program} {w:World} {K:PySem.W.Frag} {es:List Expr} {n:Nat} {pos:Pos} (a e it:Addr) (hei:e≠it) :
  Turn P w K (.Tuple es n pos) (ItE fun H xs=>SqL K H a xs) [e,it] e (fun i h=>(∃ old,IsEnum h e it i old)∧h.IsListIter it a i) where
 mem:=by simp
 obj:=fun i h st b hb=>by
  obtain ⟨⟨old,he⟩,oi,e1,c1,d1⟩:=st
  have hb':b=e∨b=it:=by simpa using hb
  rcases hb' with z | z
  ·subst z
   exact ⟨_,he,fun v z=>by cases z⟩
  ·subst z
   exact ⟨oi,e1,fun v z=>by rw [d1] at z; cases z⟩
 keep:=fun i h h' st k=>⟨let ⟨old,he⟩:=st.1; ⟨old,k e (by simp) _ he⟩,st.2.at fun o q=>k it (by simp) o q⟩
 item:=by
  intro X hP hw hK hc i pins s σ H E I hf st hg
  subst hP hw hK
  obtain ⟨xs,x,hq,hx⟩:=hg
  obtain ⟨its,rv,p,hz⟩:=I.list hq
  obtain ⟨u,hu,ru⟩:=rv.get hx
  obtain ⟨⟨old,he⟩,hit⟩:=st
  have hel:=Heap.lt_size he
  have hil:it < s.heap.objs.size:=by obtain ⟨o,q,_⟩:=id hit; exact Heap.lt_size q
  refine wpAny_pyNext_enum_item he hit p.isList (x:=u) (by simpa using hu) hei fun h1 heo hit1 ht1 hz1 hk1=>⟨_,rfl,?_⟩
  refine wpAny_letOwnedTupleGo_enum heo fun h2 he2 sb=>?_
  obtain ⟨I2,hn⟩:=enum_step (t':=s.toks+1) I hf ru ht1 hk1 sb hel hil
  exact ⟨.ref s.heap.objs.size,_,I2,rfl,⟨_,x,rfl,I.hok.fresh (Nat.le_refl _),rfl,fun ys hy=>by rw [I.list_inj hy hq]; exact hx⟩,⟨⟨_,by simpa using he2⟩,hit1.at fun o q=>(sb.2 it (Ne.symm hei)).trans q⟩,hn⟩
 done:=by
  intro X hP hw hK hc i pins s σ H E I hf st hg
  subst hP hw hK
  obtain ⟨xs,hq,hx⟩:=hg
  obtain ⟨its,rv,p,hz⟩:=I.list hq
  have hl:=rv.length
  obtain ⟨⟨old,he⟩,hit⟩:=st
  obtain ⟨f0,f1,f2,f3,f4,f5⟩:=hf it (by simp)
  exact wpAny_pyNext_enum_end (I.ok.hd hc) he hit p.isList (by simp; omega) fun h' eb=>⟨rfl,I.turned (t':=s.toks) (fun b o hb q=>eb b o hb q) f0 f1 f3 f4 f5⟩
 self:=fun _ _ _ _ _ st h=>let ⟨_,he⟩:=st.1; wpAny_pyIter_enum he h
theorem turn_enumT {P:Program} {w:World} {K:PySem.W.Frag} {es:List Expr} {n:Nat} {pos:Pos} (a e it:Addr) (hei:e≠it) :
  Turn P w K (.Tuple es n pos) (ItE fun H xs=>SqT K H a xs) [e,it] e (fun i h=>(∃ old,IsEnum h e it i old)∧h.IsTupleIter it a i) where
 mem:=by simp
 obj:=fun i h st b hb=>by
  obtain ⟨⟨old,he⟩,oi,e1,c1,d1⟩:=st
  have hb':b=e∨b=it:=by simpa using hb
  rcases hb' with z | z
  ·subst z
   exact ⟨_,he,fun v z=>by cases z⟩
  ·subst z
   exact ⟨oi,e1,fun v z=>by rw [d1] at z; cases z⟩
 keep:=fun i h h' st k=>⟨let ⟨old,he⟩:=st.1; ⟨old,k e (by simp) _ he⟩,st.2.at fun o q=>k it (by simp) o q⟩
 item:=by
  intro X hP hw hK hc i pins s σ H E I hf st hg
  subst hP hw hK
  obtain ⟨xs,x,hq,hx⟩:=hg
  obtain ⟨its,rv,p,hz⟩:=I.tuple hq
  have hl:=rv.length
  have hlt:i < its.toArray.size:=by
   have:=(List.getElem?_eq_some_iff.mp hx).1
   simp
   omega
  obtain ⟨⟨old,he⟩,hit⟩:=st
  have hel:=Heap.lt_size he
  have hT:s.heap.IsTuple a its.toArray:=p
  have hil:it < s.heap.objs.size:=by obtain ⟨o,q,_⟩:=id hit; exact Heap.lt_size q
  have nat:a≠it:=fun z=>by
   obtain ⟨o,q,c,_⟩:=id hit
   obtain ⟨o2,q2,c2,_⟩:=id hT
   rw [z,q] at q2
   cases q2
   rw [c] at c2
   injection c2 with c2
   exact absurd c2 (by decide)
  have nae:a≠e:=fun z=>by
   obtain ⟨o2,q2,c2,_⟩:=id hT
   rw [z,he] at q2
   cases q2
   injection c2 with c2
   exact absurd c2 (by decide)
  have hef:e∉[it,a]:=by simp [hei,Ne.symm nae]
  refine wpAny_pyNext_enum_itemD (drawsT (A:=X.A.in1) (I.ok.hd hc) it a nat its.toArray) he ⟨hit,hT⟩ hlt hei hef fun u h1 tk hu heo hit1 ht1 hz1 hk1=>⟨_,rfl,?_⟩
  refine wpAny_letOwnedTupleGo_enum heo fun h2 he2 sb=>?_
  obtain ⟨u',hu',ru⟩:=rv.get hx
  have eu:u=u':=by
   have h3:its[i]? = some u:=by simpa using hu
   rw [hu'] at h3
   exact (Option.some.inj h3).symm
  subst eu
  obtain ⟨I2,hn⟩:=enum_step (t':=tk+1) I hf ru ht1 hk1 sb hel hil
  exact ⟨.ref s.heap.objs.size,_,I2,rfl,⟨_,x,rfl,I.hok.fresh (Nat.le_refl _),rfl,fun ys hy=>by rw [I.tuple_inj hy hq]; exact hx⟩,⟨⟨_,by simpa using he2⟩,hit1.1.at fun o q=>(sb.2 it (Ne.symm hei)).trans q⟩,hn⟩
 done:=by
  intro X hP hw hK hc i pins s σ H E I hf st hg
  subst hP hw hK
  obtain ⟨xs,hq,hx⟩:=hg
  obtain ⟨its,rv,p,hz⟩:=I.tuple hq
  have hl:=rv.length
  obtain ⟨⟨old,he⟩,hit⟩:=st
  have hT:s.heap.IsTuple a its.toArray:=p
  have nat:a≠it:=fun z=>by
   obtain ⟨o,q,c,_⟩:=id hit
   obtain ⟨o2,q2,c2,_⟩:=id hT
   rw [z,q] at q2
   cases q2
   rw [c] at c2
   injection c2 with c2
   exact absurd c2 (by decide)
  obtain ⟨f0,f1,f2,f3,f4,f5⟩:=hf it (by simp)
  have ei:i=its.toArray.size:=by simp; omega
  subst ei
  exact wpAny_pyNext_enum_endD (drawsT (A:=X.A.in1) (I.ok.hd hc) it a nat its.toArray) he ⟨hit,hT⟩ fun h' eb=>⟨rfl,I.turned (t':=s.toks) (fun b o hb q=>eb b o hb q) f0 f1 f3 f4 f5⟩
 self:=fun _ _ _ _ _ st h=>let ⟨_,he⟩:=st.1; wpAny_pyIter_enum he h
section
variable {X:Cx} {es:List Expr} {n:Nat} {tp:Pos}
def iEnum (K:PySem.W.Frag) (te:TE):TI:=fun σ H R=>te σ H fun x H1=>∃ a xs,x=.ref a∧((SqL K H1 a xs∧R (ItE fun H xs=>SqL K H a xs) H1)∨(SqT K H1 a xs∧R (ItE fun H xs=>SqT K H a xs) H1))
theorem pi_enum {K:PySem.W.Frag} {e:Expr} {te:TE} {p pos:Pos} (hg:Gl X "enumerate") (hm:X.mg "enumerate" = none) (he:PE X e te) (hK:X.K=K:=by rfl)
  (h2:starEach [e] X.env=(false,eval e X.env) :: starEach [] X.env:=by rfl):PI X (.Tuple es n tp) (.Call (.Name "enumerate" p) [e] [] pos) (iEnum K te):=by
 subst hK
 intro pins s σ H R I h
 refine wpAny_Call_Name_kw (ld_blt I hg hm bt_enumerate (PyProof.Rows.callWith_type1 (thn (pa_cons he pa_nil h2 pos pins s σ H (fun vs H1=>match vs with | [x]=>∃ a xs,x=.ref a∧((SqL X.K H1 a xs∧R (ItE fun H xs=>SqL X.K H a xs) H1)∨(SqT X.K H1 a xs∧R (ItE fun H xs=>SqT X.K H a xs) H1)) | _=>False) I h) fun us s1 ⟨vs,H1,I1,r1,q1⟩=>?_) h2 rfl))
 obtain ⟨x0,e0,a,xs,e1,q⟩:∃ x0,vs=[x0]∧∃ a xs,x0=.ref a∧((SqL X.K H1 a xs∧R (ItE fun H xs=>SqL X.K H a xs) H1)∨(SqT X.K H1 a xs∧R (ItE fun H xs=>SqT X.K H a xs) H1)):=by
  match vs,q1 with
  | [x0],q1=>exact ⟨x0,rfl,q1⟩
 subst e0 e1
 obtain ⟨u,rfl,ru⟩:=Vals.one r1
 obtain rfl:u=Value.ref a:=ru
 have fp:∀ b∈[s1.heap.objs.size+1,s1.heap.objs.size],FpOk X pins H1 b:=fun b hb=>by
  have hb':b=s1.heap.objs.size+1∨b=s1.heap.objs.size:=by simpa using hb
  rcases hb' with z | z
  ·rw [z]; exact I1.fpOk (Nat.le_succ _) (I1.hok.fresh (Nat.le_succ _))
  ·rw [z]; exact I1.fpOk (Nat.le_refl _) (I1.hok.fresh (Nat.le_refl _))
 rcases q with ⟨hx,q⟩ | ⟨hx,q⟩
 ·obtain ⟨its,rv,pl,hz⟩:=I1.list hx
  refine call_enumerate_list pl.isList fun h' hE hI hsz hk=>wpAny_pyIter_enum hE ?_
  exact ⟨_,[s1.heap.objs.size+1,s1.heap.objs.size],_,_,H1,rfl,I1.kept (t':=s1.toks) hk,turn_enumL a _ _ (Nat.succ_ne_self _),⟨⟨_,hE⟩,hI⟩,fp,q⟩
 ·obtain ⟨its,rv,pl,hz⟩:=I1.tuple hx
  refine call_enumT (show s1.heap.IsTuple a its.toArray from pl) fun h' hE hI hsz hk=>wpAny_pyIter_enum hE ?_
  exact ⟨_,[s1.heap.objs.size+1,s1.heap.objs.size],_,_,H1,rfl,I1.kept (t':=s1.toks) hk,turn_enumT a _ _ (Nat.succ_ne_self _),⟨⟨_,hE⟩,hI⟩,fp,q⟩
end
theorem for_enum {Sq:Hp→List V→Prop} {xs:List V} {g:TG} {tb:TS} {D:Ends} {σ:St} {H:Hp} (Pv:Nat→St→Hp→Prop) (h0:Pv 0 σ H) (hl:∀ i σ H,i≤xs.length→Pv i σ H→Sq H xs)
  (hs:∀ i x σ H p,xs[i]? = some x→Pv i σ H→H p=none→g (.ref p) σ (upd H p (.tup [.int i,x])) fun σ2 H2=>tb { D with nx:=Pv (i+1),ct:=Pv (i+1),bk:=D.nx } σ2 H2) (hd:∀ σ H,Pv xs.length σ H→D.nx σ H) :
  ∃ W:Nat→Nat→St→Hp→Prop,(∃ m,W 0 m σ H)∧∀ i m σ H,W i m σ H→
   ((ItE Sq).stop i H∧D.nx σ H)∨((ItE Sq).go i H∧∃ N:St→Hp→Prop,(∀ σ' H',N σ' H'→∃ m',m' < m∧W (i+1) m' σ' H')∧∀ x H',(ItE Sq).yld i H x H'→g x σ H' fun σ2 H2=>tb { D with nx:=N,ct:=N,bk:=D.nx } σ2 H2):=by
 refine ⟨fun i m σ H=>m=xs.length - i∧i≤xs.length∧Pv i σ H,⟨xs.length,by simp,Nat.zero_le _,h0⟩,?_⟩
 rintro i m σ H ⟨rfl,hi,p⟩
 have q:=hl i σ H hi p
 by_cases hlt:i < xs.length
 ·refine .inr ⟨⟨xs,xs[i],q,by simp [hlt]⟩,Pv (i+1),fun σ' H' p'=>⟨xs.length - (i+1),by omega,rfl,hlt,p'⟩,fun x H' y=>?_⟩
  obtain ⟨a,y,e1,hn,e2,hy⟩:=y
  subst e1 e2
  exact hs i y σ H a (hy xs q) p hn
 ·have e:i=xs.length:=by omega
  subst e
  exact .inl ⟨⟨xs,q,rfl⟩,hd σ H p⟩
def comp_enum {Sq:Hp→List V→Prop} {xs:List V} {n:Nat} {fr:List Nat} {g:TG} {tt:TT} {te:TE} {σ:St} {H:Hp} {Q:VK} (Pv:Nat→List V→Hp→Prop) (hk:xs.length < sizeLine) (h0:Pv 0 [] H) (hlen:∀ i acc H,Pv i acc H→acc.length≤i)
  (hl:∀ i acc H,Pv i acc H→Sq H xs)
  (hs:∀ i acc H2 x p,xs[i]? = some x→Pv i acc H2→H2 p=none→g (.ref p) (inSt n fr σ) (upd H2 p (.tup [.int i,x])) fun σ4 H4=>tt σ4 H4 fun b H5=>if b=true then te σ4 H5 fun v H6=>Pv (i+1) (acc ++ [v]) H6 else Pv (i+1) acc H5)
  (hd:∀ acc H2,Pv xs.length acc H2→∀ l,H2 l=none→Q (.ref l) (upd H2 l (.lst acc))):=
 comp_gen (J:=ItE Sq) (n:=n) (fr:=fr) (g:=g) (tt:=tt) (te:=te) (σ:=σ) (Q:=Q) Pv hk h0 hlen (fun i acc H hi p=>⟨xs,xs[i],hl i acc H p,by simp [hi]⟩) (fun acc H p=>⟨xs,hl _ acc H p,rfl⟩) (fun i acc H2 x H3 hi p y=>by
  obtain ⟨a,y,e1,hn,e2,hy⟩:=y
  subst e1 e2
  exact hs i acc H2 y a (hy xs (hl i acc H2 p)) p hn) hd
end L2
namespace L2
open PySem PySem.Spec PyProof.Rows
section
variable {P:Program} {w:World} {κ:Type} [DecidableEq κ] {knd:HeapKind P w κ} {A:Around} {E:Value→Shared→Prop} {s:Shared}
theorem setdef_heap {d a:Addr} {xs:List (κ × Addr × Value)} {k:κ} {dflt:Value} {Q:Value→Shared→Prop} (hu:knd.room A) (hkey:knd.is s.heap k a) (hm:s.heap.DictOfH knd d xs) (hsz:xs.length≤sizeLine)
  (h1:∀ p,atKey xs k=some p→Q p.2 { s with toks:=s.toks+knd.draws k }) (h2:atKey xs k=none→∀ h',h'.DictOfH knd d (storedH xs k a dflt)→Heap.SameBut d s.heap h'→Q dflt { s with heap:=h',toks:=s.toks+knd.draws k }) :
  wpAny (model P w) A (dictSetDefault d (.ref a) dflt) Q E s:=by
 obtain ⟨o,es,ep,ho,hc,hd,he,his,hn⟩:=hm
 unfold dictSetDefault
 try with_reducible refine wpAny_holding ?_
 refine wpAny_bind (knd.pyHash hu hkey (wpAny_bind (wpAny_dictFind_heap (s:={ s with toks:=s.toks+knd.draws k }) hu hkey ho hd he his hn (fun no=>?_) fun j p hj=>?_)))
 ·have h0:=atKey_none_of_get no
  have e:=storedH_new h0 a dflt
  have z:=size_of_entries he
  refine wpAny_bind (wpAny_rule (wpAny_bind (wpAny_updateDictKeys (hz:=by omega) (s:={ s with toks:=s.toks+knd.draws k }) ho hd (wpAny_pure (h2 h0 _ ?_ (Heap.SameBut.update ..))))))
  refine ⟨_,_,ep+1,Heap.get?_update_self _ ho (Obj.isFreed_of_dict (Obj.data_mapDictKeys hd _)),hc.mapDictKeys _,Obj.data_mapDictKeys hd _,?_,?_,?_⟩ <;> rw [e]
  ·simp [he,entryOfKey]
  ·intro x hx
   rcases List.mem_append.mp hx with y | y
   ·exact knd.keeps (his x y) ho hd (Heap.SameBut.update ..)
   ·rw [List.mem_singleton.mp y]
    exact knd.keeps hkey ho hd (Heap.SameBut.update ..)
  ·rw [List.map_append,List.nodup_append]
   refine ⟨hn,by simp,fun x hx y hy q=>not_mem_keys_of_get no ?_⟩
   have:y=k:=by simpa using hy
   rw [← this,← q]
   exact hx
 ·refine wpAny_bind (wpAny_dictEntries (s:={ s with toks:=s.toks+knd.draws k }) ho hd ?_)
  rw [entry_at he j,hj]
  exact wpAny_bind (wpAny_rule (wpAny_pure (h1 p (atKey_of_get hn hj))))
theorem meets_setdefH {d a:Addr} {k:κ} (hs:(d==sysModules)=false) (dflt:Value) :
  MeetsIn P w (Builtin.«dict.setdefault» ⟨[.ref d,.ref a,dflt],[]⟩) (fun A R s=>knd.room A.in1∧knd.is s.heap k a∧∃ xs,s.heap.DictOfH knd d xs∧xs.length≤sizeLine∧
   (∀ p,atKey xs k=some p→R (.ok (.ret p.2)) { s with toks:=s.toks+knd.draws k })∧(atKey xs k=none→∀ h',h'.DictOfH knd d (storedH xs k a dflt)→Heap.SameBut d s.heap h'→R (.ok (.ret dflt)) { s with heap:=h',toks:=s.toks+knd.draws k })):=
 .of_wp fun A R s ⟨hu,hk,xs,hm,hz,h1,h2⟩=>by
  unfold Builtin.«dict.setdefault» Builtin.Dict.keyAndDefault
  refine wpAny_bind (wpAny_bind (wpAny_notOrdered_dict hm.typeIs (wpAny_pure ?_)))
  show wpAny _ _ (ite ((d==sysModules)=true) _ (dictSetDefault d (.ref a) dflt >>= _)) _ _ s
  rw [hs,if_neg Bool.false_ne_true]
  exact wpAny_bind (setdef_heap hu hk hm hz (fun p q=>wpAny_pure ⟨_,rfl,h1 p q⟩) fun n h' a b=>wpAny_pure ⟨_,rfl,h2 n h' a b⟩)
end
section
variable {X:Cx}
def tDSetT (td ty tx:TE):TE:=fun σ H Q=>td σ H fun x H1=>∃ a,x=.ref a∧IsD H1 a∧ty σ H1 fun y H2=>tx σ H2 fun z H3=>∃ kvs k b,H3 a=some (.dT kvs)∧y=.ref b∧H3 b=some (.tup (k.map kV))∧kvs.length < sizeLine∧
 (∀ v,valV kvs k=some v→Q v H3)∧(valV kvs k=none→Q z (upd H3 a (.dT (putK kvs k z))))
theorem pe_dsetT {o e f:Expr} {apos cpos:Pos} {td ty tx:TE} (hu:X.A.units+1 < cLine) (ho:PE X o td) (he:PE X e ty) (hf:PE X f tx) (m:M2 X o "setdefault" apos e f cpos):PE X (.Call (.Attribute o "setdefault" apos) [e,f] [] cpos) (tDSetT td ty tx):=by
 intro pins s σ H Q I h
 refine wpAny_Call_method m.base m.few m.line PySem.F.plainAttrs_dict PySem.F.slot_dict_setdefault PySem.F.type_dict_setdefault (thn (ho pins s σ H _ I h) fun u s1 ⟨x,H1,I1,rx,a,ex,d,q1⟩=>?_)
 subst ex
 obtain rfl:u=Value.ref a:=rx
 obtain ⟨t1,t2,_⟩:=isD_at I1 d
 refine ⟨t1,t2,?_⟩
 rw [m.trees]
 refine Calls.callWith_builtin rfl (Calls.evalArgs_plain (Calls.spliced_cons (thn (he pins s1 σ H1 _ I1 q1) fun iv s2 ⟨y,H2,I2,ry,q2⟩=>
  Calls.spliced_cons (thn (hf pins s2 σ H2 _ I2 q2) fun fv s3 ⟨z,H3,I3,rz,kvs,k,b,hk,ey,hb,hlt,q3,q4⟩=>Calls.spliced_nil ?_))))
 subst ey
 obtain rfl:iv=Value.ref b:=ry
 obtain ⟨hz,hsm,xs,rel,dd⟩:=dt_of I3.hok hk
 have hxl:xs.length≤sizeLine:=by rw [← Paired.length rel]; exact hz
 refine call_meetsIn PySem.F.slot_dict_setdefault dd.typeIs PySem.F.entry_dict_setdefault (PySem.F.args_dict_setdefault_3 _ _ _) (meets_setdefH (knd:=tupleKind (mixKind X.prog X.w)) (k:=k) hsm fv) ⟨tupleKind_room_in1 hu,key_of I3.hok hb,xs,dd,hxl,fun p hp=>?_,fun hn h' dd' hs=>?_⟩
 ·have r:=rel.val k
  rw [hp] at r
  cases hv:valV kvs k with
  | none=>rw [hv] at r; exact r.elim
  | some v=>
   rw [hv] at r
   exact ⟨v,H3,I3.tok _,r,q3 v hv⟩
 ·have r:=rel.val k
  rw [hn] at r
  have hv:valV kvs k=none:=by
   cases hv:valV kvs k with
   | none=>rfl
   | some v=>rw [hv] at r; exact r.elim
  have hl:(putK kvs k z).length≤sizeLine:=by have:=length_putK kvs k z; omega
  obtain ⟨q,es,ep,hq,h2,h3,h4,_,h5⟩:=dd'
  refine ⟨z,upd H3 a (.dT (putK kvs k z)),d_write I3 (by rw [hk]; exact True.intro) hs ⟨q,hq⟩ ⟨hl,hsm,_,(rel.put k hb rz).keeps fun c ys ec=>?_,q,es,ep,hq,h2,h3,h4,h5⟩,rz,q4 hv⟩
  rw [upd_ne (ne_of ec hk (fun z=>nomatch z))]
  exact ec
end
end L2
namespace L2
open PySem PySem.Spec PyProof.Rows
def isB (b:Bool):Value→Bool
 | .bool c=>b==c
 | _=>false
theorem isB_at {b:Bool} {v:Value} (h:isB b v=true):v=.bool b:=by
 cases v <;> simp_all [isB]
def boolKind (P:Program) (w:World):PySem.KeyKind P w Bool where
 is:=isB
 hash:=fun b=>reduceHash (if b then 1 else 0)
 inj:=fun v a b ha hb=>by
  rw [isB_at ha] at hb
  exact (eq_of_beq hb).symm
 byValue:=fun k v h=>by rw [isB_at h]; rfl
 pyHash:=fun {A E s k v Q} hv h=>by
  rw [isB_at hv]
  refine PySem.W.pyHash_slot (T:="bool") rfl F.slot_bool_hash entry_int_hash (args_int_hash _) (beq_builtin_none _) (.inl rfl) ?_
  cases k
  ·exact (show wpAny _ _ (do ret (← mkInt 0)) _ _ s from wpAny_bind (wpAny_mkInt (wpAny_pure ⟨_,_,rfl,h⟩)))
  ·exact (show wpAny _ _ (do ret (← mkInt 1)) _ _ s from wpAny_bind (wpAny_mkInt (wpAny_pure ⟨_,_,rfl,h⟩)))
 eqBool:=fun {A E s a b u v Q} hu hv h=>by
  rw [isB_at hu,isB_at hv]
  exact PySem.SeqAt.EqAt.bool_bool a b P w E Q (by cases a <;> cases b <;> exact h)
 «strs»:=fun k x t v h=>by cases h
theorem val_stored {κ:Type} [DecidableEq κ] {kvs:List (κ × Value)} {k:κ} (h:valueAt kvs k=none) (v:Value) (x:κ):valueAt (stored kvs k v) x=if x=k then some v else valueAt kvs x:=by
 have hn:kvs.find? (fun kv=>decide (kv.1=k))=none:=by
  unfold valueAt at h
  exact Option.map_eq_none_iff.mp h
 have ha:kvs.any (fun kv=>decide (kv.1=k))=false:=by
  rw [List.find?_eq_none] at hn
  rw [List.any_eq_false]
  exact hn
 unfold stored
 rw [ha,if_neg Bool.false_ne_true]
 unfold valueAt
 rw [List.find?_append]
 by_cases c:x=k
 ·subst c
  rw [hn,if_pos rfl]
  simp
 ·rw [if_neg c]
  have:([(k,v)]:List (κ × Value)).find? (fun kv=>decide (kv.1=x))=none:=by simp [Ne.symm c]
  rw [this,Option.or_none]
def dicB (P:Program) (w:World) (a:Addr) (f:Bool→Option V) (n:Nat):HO:=.ext fun h=>(a==sysModules)=false∧∃ kvs,h.DictOf (boolKind P w) a kvs∧kvs.length≤n∧∀ b,RelO (f b) (valueAt kvs b)
theorem dicB_ok {P:Program} {w:World} {H:Hp} {h:Heap} {a:Addr} {f:Bool→Option V} {n:Nat} {kvs:List (Bool × Value)} (hs:(a==sysModules)=false) (d:h.DictOf (boolKind P w) a kvs) (hn:kvs.length≤n) (r:∀ b,RelO (f b) (valueAt kvs b)):ObjOk P w H h a (dicB P w a f n):=by
 refine ⟨⟨hs,kvs,d,hn,r⟩,let ⟨o,_,_,e,_⟩:=d; ⟨o,e⟩,fun h1 h2 x k=>?_⟩
 obtain ⟨a1,kvs,⟨o,es,ep,e,r⟩,a3,a4⟩:=x
 exact ⟨a1,kvs,⟨o,es,ep,k o e,r⟩,a3,a4⟩
section
variable {X:Cx} {pos:Pos}
def tDNewB (P:Program) (w:World):TE:=fun _ H Q=>∀ p,H p=none→Q (.ref p) (upd H p (dicB P w p (fun _=>none) 0))
theorem pe_dnewB {P:Program} {w:World} (hP:X.prog=P:=by rfl) (hw:X.w=w:=by rfl):PE X (.Dict [] [] pos) (tDNewB P w):=by
 subst hP hw
 exact fun pins s σ H Q I h=>
 wpAny_Dict_empty ⟨.ref s.heap.objs.size,_,I.laid (a:=s.heap.objs.size) (o:=dicB X.prog X.w s.heap.objs.size (fun _=>none) 0) (t':=s.toks) (fun _ _ q=>Heap.get?_push_of_some _ q) (Nat.le_refl _) (dicB_ok (beq_eq_false_iff_ne.mpr (Ne.symm (Nat.ne_of_lt I.big))) (Heap.DictOf.new s.heap) (Nat.zero_le _) fun _=>True.intro),rfl,h _ (I.hok.fresh (Nat.le_refl _))⟩
def tDSetB (P:Program) (w:World) (td ty tx:TE):TE:=fun σ H Q=>td σ H fun x H1=>∃ a f n,x=.ref a∧H1 a=some (dicB P w a f n)∧ty σ H1 fun y H2=>tx σ H2 fun z H3=>∃ b f n,H3 a=some (dicB P w a f n)∧y=.bl b∧n < sizeLine∧
 (∀ v,f b=some v→Q v H3)∧(f b=none→Q z (upd H3 a (dicB P w a (fun x=>if x=b then some z else f x) (n+1))))
theorem pe_dsetB {P:Program} {w:World} {o e g:Expr} {apos cpos:Pos} {td ty tx:TE} (ho:PE X o td) (he:PE X e ty) (hf:PE X g tx) (m:M2 X o "setdefault" apos e g cpos) (hP:X.prog=P:=by rfl) (hw:X.w=w:=by rfl):PE X (.Call (.Attribute o "setdefault" apos) [e,g] [] cpos) (tDSetB P w td ty tx):=by
 subst hP hw
 intro pins s σ H Q I h
 refine wpAny_Call_method m.base m.few m.line PySem.F.plainAttrs_dict PySem.F.slot_dict_setdefault PySem.F.type_dict_setdefault (thn (ho pins s σ H _ I h) fun u s1 ⟨x,H1,I1,rx,a,f,n,ex,d,q1⟩=>?_)
 subst ex
 obtain rfl:u=Value.ref a:=rx
 obtain ⟨⟨_,kvs1,d1,_⟩,_⟩:=I1.hok a _ d
 refine ⟨d1.typeIs,fun b e=>?_,?_⟩
 ·cases e
  obtain ⟨o,_,_,ho,hc,_⟩:=d1
  exact ⟨o,ho,hc.2.1⟩
 rw [m.trees]
 refine Calls.callWith_builtin rfl (Calls.evalArgs_plain (Calls.spliced_cons (thn (he pins s1 σ H1 _ I1 q1) fun iv s2 ⟨y,H2,I2,ry,q2⟩=>
  Calls.spliced_cons (thn (hf pins s2 σ H2 _ I2 q2) fun fv s3 ⟨z,H3,I3,rz,b,f,n,hk,ey,hlt,q3,q4⟩=>Calls.spliced_nil ?_))))
 subst ey
 obtain rfl:iv=Value.bool b:=ry
 obtain ⟨⟨hsm,kvs,dd,hl,rel⟩,_⟩:=I3.hok a _ hk
 refine call_meetsIn PySem.F.slot_dict_setdefault dd.typeIs PySem.F.entry_dict_setdefault (PySem.F.args_dict_setdefault_3 _ _ _) (kt_meets_setdefault (boolKind X.prog X.w) (k:=b) a (by show (b==b)=true; simp) hsm fv) ⟨kvs,dd,by omega,fun w' hw=>?_,fun hn h' dd' hs=>?_⟩
 ·have r:=rel b
  rw [hw] at r
  cases hv:f b with
  | none=>rw [hv] at r; exact r.elim
  | some v=>
   rw [hv] at r
   exact ⟨v,H3,I3.tok _,r,q3 v hv⟩
 ·have r:=rel b
  rw [hn] at r
  have hv:f b=none:=by
   cases hv:f b with
   | none=>rfl
   | some v=>rw [hv] at r; exact r.elim
  refine ⟨z,upd H3 a (dicB X.prog X.w a (fun x=>if x=b then some z else f x) (n+1)),d_write I3 (by rw [hk]; exact True.intro) hs (let ⟨q,_,_,e,_⟩:=dd'; ⟨q,e⟩) (dicB_ok hsm dd' (Nat.le_trans (stored_length_le _ _ _) (by omega)) fun x=>?_),rz,q4 hv⟩
  rw [val_stored hn]
  by_cases c:x=b
  ·rw [if_pos c,if_pos c]
   exact rz
  ·rw [if_neg c,if_neg c]
   exact rel x
end
end L2
namespace L2
open PySem PySem.Spec PyProof.Rows
def metI (ns:List Int):List Int:=firstMet (fun i=>ns.getD i 0) ns.length
theorem vals_intsA:∀ {ns:List Int} {us:List Value},Vals (ns.map V.int) us→IntsAre us ns
 | [],_,r=>by cases r; exact .nil
 | n :: ns,_,r=>by
  cases r with
  | cons h t=>
   obtain ⟨k,rfl⟩:=h
   exact .cons _ _ (vals_intsA t)
section
variable {X:Cx}
inductive rSetII (K:PySem.W.Frag) (xs:List V) (H:Hp) (Q:VK):Prop
 | mk (p ns:_) (h1:xs=[.ref p]) (h2:SqL K H p (ns.map V.int)) (h3:ns.length+1 < scanBound) (h4:∀ l,H l=none→Q (.ref l) (upd H l (.set (fun k=>(metI ns).any (· == k)) (metI ns).length))):rSetII K xs H Q
def rSetI (K:PySem.W.Frag):List V→Hp→VK→Prop:=fun xs H Q=>rSetII K xs H Q
theorem call_setI {K:PySem.W.Frag} (hc:X.calm=true) (hK:X.K=K:=by rfl):CallR X (.type "set") (rSetI K):=by
 subst hK
 intro pins s σ H xs us Q I r h
 obtain ⟨p,ns,rfl,hp,hz,q⟩:=h
 obtain ⟨u,rfl,ru⟩:=vals1 r
 obtain rfl:u=Value.ref p:=ru
 obtain ⟨its,rv,pl,_⟩:=I.list hp
 have hl:its.toArray.size=ns.length:=by rw [List.size_toArray,← rv.length,List.length_map]
 refine PySem.call_set_list (I.ok.hd hc) pl.isList (ns:=ns) (vals_intsA rv) (by rw [hl]; exact hz) fun h' tk hS k=>?_
 rw [hl] at hS
 exact ⟨.ref s.heap.objs.size,_,I.laid (fun b o e=>k b o (Heap.lt_size e) e) (Nat.le_refl _) (show ObjOk X.prog X.w _ h' _ (.set (fun k=>(metI ns).any (· == k)) (metI ns).length) from hS),rfl,q _ (I.hok.fresh (Nat.le_refl _))⟩
theorem call_lenSet:CallR X (.builtin "len") (fun xs H Q=>∃ p S n,xs=[.ref p]∧H p=some (.set S n)∧Q (.int (n:Int)) H):=by
 intro pins s σ H xs us Q I r h
 obtain ⟨p,S,n,rfl,hp,q⟩:=h
 obtain ⟨u,rfl,ru⟩:=vals1 r
 obtain rfl:u=Value.ref p:=ru
 obtain ⟨o,es,ep,t,ho,hex,hd,_,_,hb,hf,hn⟩:=(show s.heap.SetOf (intKind X.prog X.w) p S n from I.hok p _ hp)
 subst hn
 exact call_len_set ho hex hd hf (by have h:scanBound≤2 ^ 62:=(by decide); omega) ⟨.int (es.size:Int),H,I.tok _,⟨_,rfl⟩,q⟩
end
end L2
namespace L2
open PySem PySem.Spec PyProof.Rows
def tNest (P:Addr) (L:List (Pos × Str)) (fdOf:Value→Addr→Value→FuncData) (q:Str) (i:Nat):TS:=fun D σ H=>Tb P L H∧
 ∀ H' f c ct doc,SameT P H H'→Tb P L H'→H f=none→H' f=some (FnO f (fdOf doc c ct))→H' c=some (CdO c q)→D.nx (σ.set i (some (.ref f))) H'
section
variable {X:Cx} {name:Str} {params:Arguments} {body:List Stmt} {scope:Scope} {pos:Pos} {c P:Addr} {L:List (Pos × Str)} {i:Nat}
theorem ps_nest (hN:X.N.Nodup) (hi:X.N[i]? = some name) (hx:Loc X.env.scope name) (hcode:X.env.code=.ref c) (C:PySem.W.CodeHd X.base c P) (hB:BltM X.mg X.base) (hL:(pos,qualnameIn X.env name name)∈L) (hu:∀ x∈L,x.1.line=pos.line→x.1.col=pos.col→x.2=qualnameIn X.env name name)
  (hd0:params.defaults=[]:=by rfl) (hk0:params.kw_defaults=[]:=by rfl) (ha:annTrees params none X.env=[]:=by rfl) {sc:Scope} (hsc:X.env.scope=sc:=by rfl) (hfr:∀ y∈scope.names,y.2=NameKind.free→sc.names.lookup y.1=some .cell∨sc.names.lookup y.1=some .free:=by decide +kernel)
  (hf:X.fn name=true∨X.env.scope.names.lookup name=some .local:=by first | exact .inl rfl | exact .inr rfl | assumption) :
  PS X (.FunctionDef name params body [] none [] scope none name pos) (tNest P L (fun doc c ct=>PySem.W.fnX name (qualnameIn X.env name name) params body scope (clOf X.env scope.names []) .none .none doc ((X.mg "__name__").getD .none) none (.ref c) ct) (qualnameIn X.env name name) i):=by
 intro pins s σ H D I ⟨⟨ps,hP,ht,hT⟩,hq⟩
 have hPo:s.heap.get? P=some (PySem.W.tabObj ps):=I.hok P _ hP
 have hg:=I.mod.glob.keeps I.bk
 have hb:=(hB.keeps I.bk).at_ hg hPo
 have hcl:∀ y∈scope.names,y.2=NameKind.free→∃ c,X.env.cells.lookup y.1=some c:=fun y hy e=>I.ok.has y.1 (by subst hsc; exact hfr y hy e)
 refine PySem.W.nestDef_K hd0 hk0 ha (thn (Q:=EP X pins σ fun v H'=>D.nx (σ.set i (some v)) H') ?_ fun u s1 ⟨v,H1,I1,r1,q1⟩=>store_ok I1 hN hi hx r1 (fun s2 I2=>⟨_,H1,I2,q1⟩) hf)
 rcases hT _ hL with hn | ⟨c2,hc,hcd⟩
 ·refine PySem.W.makeFunction_K (mg:=X.mg) (closure_is hcl) I.ok.glob hg hcode (C.keeps I.bk) hPo ht hn (ns_ne hg hPo) hb fun c' ctv doc h' tk hx' hge hlt hrec htb=>?_
  exact made_ok (fdOf:=fun c ct=>PySem.W.fnX name (qualnameIn X.env name name) params body scope (clOf X.env scope.names []) .none .none doc ((X.mg "__name__").getD .none) none (.ref c) ct) I hP ht hT hu (fun H' f c ct a b d e g=>hq H' f c ct doc a b d e g) hn hx' hge hlt hrec htb
 ·refine PySem.W.makeFunction_hit (mg:=X.mg) (closure_is hcl) I.ok.glob hg hcode (C.keeps I.bk) hPo ht hc hb fun ctv doc h' tk hk hsz=>?_
  have nf:H h'.objs.size=none:=I.hok.fresh hsz
  refine ⟨.ref h'.objs.size,_,I.laid (t':=tk) (fun b u e=>Heap.get?_push_of_some _ (hk b u e)) hsz (fno_ok (Heap.get?_push_size _ rfl)),rfl,?_⟩
  have e0:Same H (upd H h'.objs.size (FnO h'.objs.size (PySem.W.fnX name (qualnameIn X.env name name) params body scope (clOf X.env scope.names []) .none .none doc ((X.mg "__name__").getD .none) none (.ref c2) ctv))):=fun b o e=>by rw [upd_ne (ne_of_none e nf)]; exact e
  exact hq _ _ c2 ctv doc e0.t (Tb.same ⟨ps,hP,ht,hT⟩ e0) nf upd_same (e0 _ _ hcd)
end
theorem def_ok {P:Program} {w:World} {K:PySem.W.Frag} {mg:Str→Option Value} {base:Heap} {k:Nat} {f c:Addr} {name qual:Str} {params:Arguments} {body:List Stmt} {scope:Scope} {cl:List (Str × Addr)} {doc pm ct:Value} {N ps:List Str} {fv:List V} {sp:Sp}
  (S:LamSc N ps scope) (LC:LamCl base N ps scope cl fv) (len:∀ vs H Q E,sp vs H Q E→vs.length=ps.length)
  (hat:∀ vs H Q E,sp vs H Q E→H f=some (FnO f (PySem.W.fnX name qual params body scope cl .none .none doc pm none (.ref c) ct))∧H c=some (CdO c qual))
  (hbody:∀ (A:Around) (outer:List Env) (s:Shared) (H:Hp) (vs:List V) (Q:VK) (E:XK),Room k (A.deeper (PySem.W.envX qual scope s.heap.objs.size f (.ref c) cl))→sp vs H Q E→
   ∃ t,PSs (cxLam P w K mg base N qual scope f (.ref c) cl A outer s H) body t∧t { nx:=fun _ H'=>Q .non H',rt:=Q } (vs.map some ++ fv.map some) H) :
  FnOk P w K mg base CX0 (k+1) f (PySem.W.fnX name qual params body scope cl .none .none doc pm none (.ref c) ct) ps sp:=by
 refine ⟨len,fun A outer s H args us vs Q E hr e0 hb r hsp=>?_⟩
 have hl:=len _ _ _ _ hsp
 obtain ⟨hf,hc⟩:=hat _ _ _ _ hsp
 have lim:s.heap.NoLimit:=e0.mod.nolimit.keeps fun b o e=>(e0.bs b o e).1
 refine codeAny_call_function hr.depth (FnO.at_ e0.hok hf) rfl S.co S.gen rfl (CdO.at_ e0.hok hc) (hb _ _ _ _ ?_)
 refine wpAny_newFunctionEnv S.nocell (fun y hy=>S.par y.1 (List.of_mem_zip hy).1) (fun h1 hns hsb=>?_) S.kind
 have hk:∀ b o,s.heap.get? b=some o→h1.get? b=some o:=fun b o e=>hsb.extBut b o (Nat.ne_of_lt (Heap.lt_size e)) (Heap.get?_push_of_some _ e)
 refine ⟨lim.keeps hk,codeAny_func ?_⟩
 obtain ⟨t,ht,hq⟩:=hbody A outer s H vs Q E (hr.deeper _) hsp
 have I:Inv (cxLam P w K mg base N qual scope f (.ref c) cl A outer s H) [] (vs.map some ++ fv.map some) H { s with heap:=h1,toks:=s.toks+(ps.zip us).length }:=inv_lam S LC hr.hd e0 hl r hns hk
 refine wpAny_mono (ht [] _ _ H _ I hq) (fun fl s' hs=>?_) fun e s' hs=>hs.elim
 cases fl with
 | ret u=>
  obtain ⟨v,σ',H',J,rv,q⟩:=hs
  exact ⟨v,H',J.os,J.bare,J.base,J.hok,rv,q⟩
 | next=>
  obtain ⟨σ',H',J,q⟩:=hs
  exact ⟨.non,H',J.os,J.bare,J.base,J.hok,rfl,q⟩
 | brk=>
  obtain ⟨_,_,_,q⟩:=hs
  exact False.elim q
 | cont=>
  obtain ⟨_,_,_,q⟩:=hs
  exact False.elim q
end L2
namespace L2
open PySem PySem.Spec PyProof.Rows
section
variable {P:Program} {w:World} {κ:Type} [DecidableEq κ] {knd:PySem.KeyKind P w κ} {A:Around} {E:Value→Shared→Prop} {s:Shared}
theorem drawK_item {it d:Addr} {i ep:Nat} {kvs:List (κ × Value)} {k:κ} {v:Value} {Q:Value→Shared→Prop} (hi:s.heap.IsKeyIter it d i kvs.length ep) (hm:s.heap.DictAt knd d kvs ep) (hx:kvs[i]? = some (k,v))
  (q:∀ key h',knd.is k key=true→h'.IsKeyIter it d (i+1) kvs.length ep→Heap.SameBut it s.heap h'→Q key { s with heap:=h' }):wpAny (model P w) A (Builtin.SmallTypes.nextOf (.ref it)) Q E s:=by
 obtain ⟨o,e0,ec,ed⟩:=id hi
 obtain ⟨od,es,eo,ecd,edd,hk,hp,hn⟩:=id hm
 have z:es.size=kvs.length:=by rw [← hp.length]; simp
 have hlt:i < es.size:=by rw [z]; exact (List.getElem?_eq_some_iff.mp hx).1
 have hkey:knd.is k es[i].key=true:=(hp.get? (e:=es[i]) (by simp [hlt]) hx).1
 unfold Builtin.SmallTypes.nextOf
 refine wpAny_bind (wpAny_callSpecial?_slot (name:=Str.ofString "__next__") hi.typeIs F.slot_dict_keyiterator_next (wpAny_call_entry F.slot_dict_keyiterator_next hi.typeIs F.entry_dict_keyiterator_next ?_ (F.args_dict_keyiterator_next_1 _)))
 refine wpAny_bind (wpAny_pure (wpAny_bind (wpAny_bind ?_)))
 first | refine wpAny_bind (wpAny_typeNameOfWhole_keyiter hi.typeIs (wpAny_pure (wpAny_bind (wpAny_fieldsOf e0 ed ?_)))) | refine wpAny_bind (wpAny_typeNameOf_keyiter hi.typeIs (wpAny_pure (wpAny_bind (wpAny_fieldsOf e0 ed ?_))))
 simp only [show Builtin.Dict_items.ownsTuple "dict_keyiterator" = false by decide,Bool.false_eq_true,if_false]
 show wpAny _ _ (ite ((Value.ref d==Value.none)=true) _ _) _ _ s
 refine (if_neg (show ¬ (Value.ref d==Value.none)=true from Bool.false_ne_true))▸?_
 refine wpAny_bind (wpAny_pure (wpAny_bind (wpAny_dictEntries eo edd ?_)))
 rw [if_neg (by rw [z]; simp)]
 refine wpAny_bind (wpAny_pure (wpAny_bind (wpAny_dictEpoch eo edd ?_)))
 rw [if_neg (by simp)]
 refine wpAny_pure ?_
 simp only [show ¬ ((i:Int) < 0) from by omega,if_false,Int.toNat_natCast,Array.getElem?_eq_getElem hlt]
 refine wpAny_bind ?_
 first | refine wpAny_bind (wpAny_typeNameOfWhole_keyiter hi.typeIs (wpAny_pure (wpAny_bind (wpAny_isOneOf_keyiter hi.typeIs ?_)))) | refine wpAny_bind (wpAny_typeNameOf_keyiter hi.typeIs (wpAny_pure (wpAny_bind (wpAny_isOneOf_keyiter hi.typeIs ?_))))
 have hi':(s.heap.update it (Obj.mapFields (·.setIfInBounds 1 (rawInt ((i:Int)+1))))).IsKeyIter it d (i+1) kvs.length ep:=by
  refine ⟨_,Heap.get?_update_self _ e0 (Obj.isFreed_of_fields (Obj.data_mapFields ed _)),(Obj.cls_mapFields ..).trans ec,?_⟩
  rw [Obj.data_mapFields ed]
  simp [rawInt]
 refine wpAny_bind (m:=setField (.ref it) 1 (rawInt ((i:Int)+1))) (wpAny_setField e0 ed (by simp) (wpAny_bind (wpAny_holding (wpAny_bind (wpAny_isOneOf_keyiter (s:={ s with heap:=s.heap.update it (Obj.mapFields (·.setIfInBounds 1 (rawInt ((i:Int)+1)))) }) hi'.typeIs ?_)))))
 exact wpAny_pure (wpAny_pure ⟨_,rfl,wpAny_pure (q _ _ hkey hi' (Heap.SameBut.update ..))⟩)
theorem drawK_end {it d:Addr} {i ep:Nat} {kvs:List (κ × Value)} {Q:Value→Shared→Prop} (hh:A.handled=none) (hi:s.heap.IsKeyIter it d i kvs.length ep) (hm:s.heap.DictAt knd d kvs ep) (hx:kvs[i]? = none)
  (q:∀ h' e,Heap.ExtBut it s.heap h'→(∃ o,h'.get? e=some o∧o.cls=.type "StopIteration")→E (.ref e) { s with heap:=h' }):wpAny (model P w) A (Builtin.SmallTypes.nextOf (.ref it)) Q E s:=by
 obtain ⟨o,e0,ec,ed⟩:=id hi
 obtain ⟨od,es,eo,ecd,edd,hk,hp,hn⟩:=id hm
 have z:es.size=kvs.length:=by rw [← hp.length]; simp
 have hge:es.size≤i:=by rw [z]; simpa using hx
 unfold Builtin.SmallTypes.nextOf
 refine wpAny_bind (wpAny_callSpecial?_slot (name:=Str.ofString "__next__") hi.typeIs F.slot_dict_keyiterator_next (wpAny_call_entry F.slot_dict_keyiterator_next hi.typeIs F.entry_dict_keyiterator_next ?_ (F.args_dict_keyiterator_next_1 _)))
 refine wpAny_bind (wpAny_pure (wpAny_bind (wpAny_bind ?_)))
 first | refine wpAny_bind (wpAny_typeNameOfWhole_keyiter hi.typeIs (wpAny_pure (wpAny_bind (wpAny_fieldsOf e0 ed ?_)))) | refine wpAny_bind (wpAny_typeNameOf_keyiter hi.typeIs (wpAny_pure (wpAny_bind (wpAny_fieldsOf e0 ed ?_))))
 simp only [show Builtin.Dict_items.ownsTuple "dict_keyiterator" = false by decide,Bool.false_eq_true,if_false]
 show wpAny _ _ (ite ((Value.ref d==Value.none)=true) _ _) _ _ s
 refine (if_neg (show ¬ (Value.ref d==Value.none)=true from Bool.false_ne_true))▸?_
 refine wpAny_bind (wpAny_pure (wpAny_bind (wpAny_dictEntries eo edd ?_)))
 rw [if_neg (by rw [z]; simp)]
 refine wpAny_bind (wpAny_pure (wpAny_bind (wpAny_dictEpoch eo edd ?_)))
 rw [if_neg (by simp)]
 refine wpAny_pure ?_
 simp only [show ¬ ((i:Int) < 0) from by omega,if_false,Int.toNat_natCast,Array.getElem?_eq_none hge]
 refine wpAny_bind ?_
 first | refine wpAny_bind (wpAny_typeNameOfWhole_keyiter hi.typeIs (wpAny_pure ?_)) | refine wpAny_bind (wpAny_typeNameOf_keyiter hi.typeIs (wpAny_pure ?_))
 refine wpAny_bind (m:=setField (.ref it) 0 .none) (wpAny_setField e0 ed (by simp) (wpAny_bind (m:=newExc (.type "StopIteration") []) ?_))
 simp only [newExc,newTuple,raiseNew]
 refine wpAny_bind (wpAny_newObj_type (wpAny_bind (m:=firstArgMember _ _) (wpAny_of_eq (a:=Value.none) (by first | rfl | (simp only [firstArgMember]; rfl)) (wpAny_newObj_type ?_ (by size_fits)))) (by size_fits))
 refine wpAny_bind (wpAny_handled ?_)
 first | rw [show A.in1.handled=none from hh] | rw [hh]
 exact wpAny_bind (wpAny_pure (wpAny_throw (q _ _ (((Heap.SameBut.update ..).extBut.push _).push _) ⟨_,Heap.get?_push_size _ rfl,rfl⟩)))
abbrev kitO (d:Addr) (n ep:Nat):Obj:={ cls:=.type "dict_keyiterator",data:=.fields #[.ref d,.int 0 0,.int n 0,.int ep 0] }
abbrev enuO (it:Addr):Obj:={ cls:=.type "enumerate",data:=.fields #[.none,.bool false,.ref it,rawInt 0,.none,.none] }
open AutoSeq1 (wpAny_loadPart') in
theorem enumNewK (d:Addr) (kvs:List (κ × Value)) (ep:Nat):MeetsIn P w (Builtin.«enumerate.__new__» ⟨[.type "enumerate",.ref d],[]⟩) (fun _ R s=>(d==sysModules)=false∧s.heap.DictAt knd d kvs ep∧R (.ok (.ret (.ref (s.heap.push (kitO d kvs.length ep)).objs.size))) { s with heap:=(s.heap.push (kitO d kvs.length ep)).push (enuO s.heap.objs.size) }):=
 .of_wp fun A R s h=>by
  obtain ⟨hp,g,dr,tk,os⟩:=s
  obtain ⟨hs,hm,q⟩:=h
  have hsub:=sub_enumerate
  obtain ⟨⟨c,dx,dt,sl⟩,es,ho,hx,hd,hrest⟩:=id hm
  obtain ⟨hc,hdx,hsl⟩:=hx
  obtain rfl:c=.type "dict":=hc
  obtain rfl:dt=.dict es ep:=hd
  wp_walk using wpAny_loadPart' ho
  refine wpAny_stack_any fun st=>wpAny_pure ?_
  split
  ·rename_i c _ _ _ _ _
   cases (c==Value.type "enumerate") <;> (wp_walk using wpAny_loadPart' ho,wpAny_pyIter_dict hs hm; exact ⟨_,rfl,q⟩)
  ·wp_walk using wpAny_loadPart' ho,wpAny_pyIter_dict hs hm
   exact ⟨_,rfl,q⟩
theorem call_enumK {d:Addr} {kvs:List (κ × Value)} {ep:Nat} {Q:Value→Shared→Prop} (hs:(d==sysModules)=false) (hm:s.heap.DictAt knd d kvs ep)
  (q:∀ h',IsEnum h' (s.heap.objs.size+1) s.heap.objs.size 0 .none→h'.IsKeyIter s.heap.objs.size d 0 kvs.length ep→h'.objs.size=s.heap.objs.size+2→(∀ b o,s.heap.get? b=some o→h'.get? b=some o)→Q (.ref (s.heap.objs.size+1)) { s with heap:=h' }) :
  wpAny (model P w) A (call (.type "enumerate") [.ref d]) Q E s:=by
 refine callType_newIn F.called_enumerate (by decide) (F.typeCall_enumerate_1 _) (F.newCall_enumerate_1 _) (fun obj=>F.args_object_init_2 obj _) F.entry_enumerate_new (enumNewK (knd:=knd) d kvs ep) ⟨hs,hm,?_⟩
 have z:(s.heap.push (kitO d kvs.length ep)).objs.size=s.heap.objs.size+1:=Heap.size_push ..
 show _∧_
 have en:=Heap.get?_push_size (s.heap.push (kitO d kvs.length ep)) (o:=enuO s.heap.objs.size) rfl
 rw [z] at en ⊢
 exact ⟨⟨_,en,rfl⟩,q _ en ⟨_,Heap.get?_push_of_some _ (Heap.get?_push_size _ rfl),rfl,rfl⟩ (by rw [Heap.size_push,z]) fun b o x=>Heap.get?_push_of_some _ (Heap.get?_push_of_some _ x)⟩
theorem drawsK (hh:A.handled=none) (it d:Addr) (hne:d≠it) (kvs:List (κ × Value)) (ep:Nat):Draws P w A it [it,d] kvs.length (fun i v=>∃ k x,kvs[i]? = some (k,x)∧knd.is k v=true) (fun i h=>h.IsKeyIter it d i kvs.length ep∧h.DictAt knd d kvs ep) where
 live:=fun _ _ ⟨⟨o,e,_⟩,_⟩=>⟨o,e⟩
 frame:=fun _ _ _ ⟨a,b⟩ k=>⟨a.at fun o e=>k it (by simp) o e,b.at' fun o e=>k d (by simp) o e⟩
 item:=fun i s Q E hi st q=>drawK_item st.1 st.2 (k:=kvs[i].1) (v:=kvs[i].2) (by simp [hi]) fun key h' hk a b=>q _ h' s.toks ⟨kvs[i].1,kvs[i].2,by simp [hi],hk⟩ ⟨a,st.2.extBut b.extBut hne⟩ b
 done:=fun s Q E st q=>drawK_end hh st.1 st.2 (by simp) q
end
theorem turn_enumK {P:Program} {w:World} {K:PySem.W.Frag} {ex:List Expr} {n:Nat} {pos:Pos} (a e it:Addr) (hei:e≠it) (o:Obj) (kvs:List (Key × V)) (vs:List (Key × Value)) (ep:Nat) (rel:KV kvs vs) (ho:∀ h:Heap,h.get? a=some o→h.DictAt (mixKind P w) a vs ep) :
  Turn P w K (.Tuple ex n pos) (ItE fun H xs=>H a=some (.frz o (.dK kvs))∧xs=kvs.map fun p=>kV p.1) [e,it] e (fun i h=>(∃ old,IsEnum h e it i old)∧h.IsKeyIter it a i vs.length ep) where
 mem:=by simp
 obj:=fun i h st b hb=>by
  obtain ⟨⟨old,he⟩,oi,e1,c1,d1⟩:=st
  have hb':b=e∨b=it:=by simpa using hb
  rcases hb' with z | z
  ·subst z
   exact ⟨_,he,fun v z=>by cases z⟩
  ·subst z
   exact ⟨oi,e1,fun v z=>by rw [d1] at z; cases z⟩
 keep:=fun i h h' st k=>⟨let ⟨old,he⟩:=st.1; ⟨old,k e (by simp) _ he⟩,st.2.at fun o q=>k it (by simp) o q⟩
 item:=by
  intro X hP hw hK hc i pins s σ H E I hf st hg
  subst hP hw hK
  obtain ⟨xs,x,⟨hq,hxs⟩,hx⟩:=hg
  have hd:=ho s.heap (I.hok a _ hq).1
  have hl:=kv_len rel
  have hlt:i < vs.length:=by
   have:=(List.getElem?_eq_some_iff.mp hx).1
   rw [hxs,List.length_map] at this
   omega
  obtain ⟨⟨old,he⟩,hit⟩:=st
  have hel:=Heap.lt_size he
  have hil:it < s.heap.objs.size:=by obtain ⟨o,q,_⟩:=id hit; exact Heap.lt_size q
  have nat:a≠it:=fun z=>by
   obtain ⟨o,q,c,_⟩:=id hit
   obtain ⟨o2,_,q2,c2,_⟩:=id hd
   rw [z,q] at q2
   cases q2
   have c3:=c2.1
   rw [c] at c3
   injection c3 with c3
   exact absurd c3 (by decide)
  have nae:a≠e:=fun z=>by
   obtain ⟨o2,_,q2,c2,_⟩:=id hd
   rw [z,he] at q2
   cases q2
   have c3:=c2.1
   injection c3 with c3
   exact absurd c3 (by decide)
  have hef:e∉[it,a]:=by simp [hei,Ne.symm nae]
  refine wpAny_pyNext_enum_itemD (drawsK (knd:=mixKind X.prog X.w) (A:=X.A.in1) (I.ok.hd hc) it a nat vs ep) he ⟨hit,hd⟩ hlt hei hef fun u h1 tk hu heo hit1 ht1 hz1 hk1=>⟨_,rfl,?_⟩
  refine wpAny_letOwnedTupleGo_enum heo fun h2 he2 sb=>?_
  obtain ⟨k,x',hk,his⟩:=hu
  obtain ⟨v,hv⟩:=kv_get rel hk
  have ex:x=kV k:=by
   rw [hxs,List.getElem?_map,hv] at hx
   exact (Option.some.inj hx).symm
  subst ex
  obtain ⟨I2,hn⟩:=enum_step (t':=tk+1) I hf (rel_of_is his) ht1 hk1 sb hel hil
  exact ⟨.ref s.heap.objs.size,_,I2,rfl,⟨_,kV k,rfl,I.hok.fresh (Nat.le_refl _),rfl,fun ys hy=>by rw [hy.2,← hxs]; exact hx⟩,⟨⟨_,by simpa using he2⟩,hit1.1.at fun o q=>(sb.2 it (Ne.symm hei)).trans q⟩,hn⟩
 done:=by
  intro X hP hw hK hc i pins s σ H E I hf st hg
  subst hP hw hK
  obtain ⟨xs,⟨hq,hxs⟩,hx⟩:=hg
  have hd:=ho s.heap (I.hok a _ hq).1
  have hl:=kv_len rel
  obtain ⟨⟨old,he⟩,hit⟩:=st
  have nat:a≠it:=fun z=>by
   obtain ⟨o,q,c,_⟩:=id hit
   obtain ⟨o2,_,q2,c2,_⟩:=id hd
   rw [z,q] at q2
   cases q2
   have c3:=c2.1
   rw [c] at c3
   injection c3 with c3
   exact absurd c3 (by decide)
  obtain ⟨f0,f1,f2,f3,f4,f5⟩:=hf it (by simp)
  have ei:i=vs.length:=by rw [← hx,hxs,List.length_map,hl]
  subst ei
  exact wpAny_pyNext_enum_endD (drawsK (knd:=mixKind X.prog X.w) (A:=X.A.in1) (I.ok.hd hc) it a nat vs ep) he ⟨hit,hd⟩ fun h' eb=>⟨rfl,I.turned (t':=s.toks) (fun b o hb q=>eb b o hb q) f0 f1 f3 f4 f5⟩
 self:=fun _ _ _ _ _ st h=>let ⟨_,he⟩:=st.1; wpAny_pyIter_enum he h
section
variable {X:Cx} {ex:List Expr} {n:Nat} {tp:Pos}
def iEnumK (te:TE):TI:=fun σ H R=>te σ H fun x H1=>∃ a kvs,x=.ref a∧((H1 a=some (.dK kvs)∧∀ o,R (ItE fun H xs=>H a=some (.frz o (.dK kvs))∧xs=kvs.map fun p=>kV p.1) (upd H1 a (.frz o (.dK kvs))))∨
 ∃ o,H1 a=some (.frz o (.dK kvs))∧R (ItE fun H xs=>H a=some (.frz o (.dK kvs))∧xs=kvs.map fun p=>kV p.1) H1)
theorem pi_enumK {e:Expr} {te:TE} {p pos:Pos} (hg:Gl X "enumerate") (hm:X.mg "enumerate" = none) (he:PE X e te) (h2:starEach [e] X.env=(false,eval e X.env) :: starEach [] X.env:=by rfl):PI X (.Tuple ex n tp) (.Call (.Name "enumerate" p) [e] [] pos) (iEnumK te):=by
 intro pins s σ H R I h
 refine wpAny_Call_Name_kw (ld_blt I hg hm bt_enumerate (PyProof.Rows.callWith_type1 (thn (pa_cons he pa_nil h2 pos pins s σ H (fun vs H1=>match vs with | [x]=>∃ a kvs,x=.ref a∧((H1 a=some (.dK kvs)∧∀ o,R (ItE fun H xs=>H a=some (.frz o (.dK kvs))∧xs=kvs.map fun p=>kV p.1) (upd H1 a (.frz o (.dK kvs))))∨∃ o,H1 a=some (.frz o (.dK kvs))∧R (ItE fun H xs=>H a=some (.frz o (.dK kvs))∧xs=kvs.map fun p=>kV p.1) H1) | _=>False) I h) fun us s1 ⟨vs,H1,I1,r1,q1⟩=>?_) h2 rfl))
 obtain ⟨x0,e0,a,kvs,e1,q⟩:∃ x0,vs=[x0]∧∃ a kvs,x0=.ref a∧((H1 a=some (.dK kvs)∧∀ o,R (ItE fun H xs=>H a=some (.frz o (.dK kvs))∧xs=kvs.map fun p=>kV p.1) (upd H1 a (.frz o (.dK kvs))))∨∃ o,H1 a=some (.frz o (.dK kvs))∧R (ItE fun H xs=>H a=some (.frz o (.dK kvs))∧xs=kvs.map fun p=>kV p.1) H1):=by
  match vs,q1 with
  | [x0],q1=>exact ⟨x0,rfl,q1⟩
 subst e0 e1
 obtain ⟨u,rfl,ru⟩:=Vals.one r1
 obtain rfl:u=Value.ref a:=ru
 have key:∀ (o:Obj) (H2:Hp),Inv X pins σ H2 s1→H2 a=some (.frz o (.dK kvs))→R (ItE fun H xs=>H a=some (.frz o (.dK kvs))∧xs=kvs.map fun p=>kV p.1) H2→
   wpAny (model X.prog X.w) X.A (call (.type "enumerate") [.ref a]) (fun v s2=>wpAny (model X.prog X.w) X.A (pyIter v) (PIE X pins σ (.Tuple ex n tp) R) X.xe s2) X.xe s1:=by
  intro o H2 I2 h2 q2
  obtain ⟨ho,_,hsm,vs,rel,dd⟩:=I2.hok a _ h2
  obtain ⟨o',es,ep,ho',hx,hdat,hk,hp,hn⟩:=dd
  rw [ho] at ho'
  cases ho'
  have at_:∀ h:Heap,h.get? a=some o→h.DictAt (mixKind X.prog X.w) a vs ep:=fun h e=>⟨o,es,e,hx,hdat,hk,hp,hn⟩
  refine call_enumK hsm (at_ s1.heap ho) fun h' hE hI hsz hk=>wpAny_pyIter_enum hE ?_
  refine ⟨_,[s1.heap.objs.size+1,s1.heap.objs.size],_,_,H2,rfl,I2.kept (t':=s1.toks) hk,turn_enumK a _ _ (Nat.succ_ne_self _) o kvs vs ep rel at_,⟨⟨_,hE⟩,hI⟩,fun b hb=>?_,q2⟩
  have hb':b=s1.heap.objs.size+1∨b=s1.heap.objs.size:=by simpa using hb
  rcases hb' with z | z
  ·rw [z]; exact I2.fpOk (Nat.le_succ _) (I2.hok.fresh (Nat.le_succ _))
  ·rw [z]; exact I2.fpOk (Nat.le_refl _) (I2.hok.fresh (Nat.le_refl _))
 rcases q with ⟨hd,q⟩ | ⟨o,hd,q⟩
 ·obtain ⟨hz,hsm,vs,rel,dd⟩:=I1.hok a _ hd
  obtain ⟨o,es,ep,ho,rest⟩:=id dd
  have I2:Inv X pins σ (upd H1 a (.frz o (.dK kvs))) s1:=I1.write (x:=a) (e:=a) (t':=s1.toks) (h':=s1.heap) (by rw [hd]; exact True.intro) (.inl rfl) (fun b u _ e=>e) ⟨o,ho⟩ ⟨ho,hz,hsm,vs,rel,dd⟩
  exact key o _ I2 upd_same (q o)
 ·exact key o H1 I1 hd q
end
def comp_dict {a:Addr} {o:Obj} {kvs:List (Key × V)} {n:Nat} {fr:List Nat} {g:TG} {tt:TT} {te:TE} {σ:St} {H:Hp} {Q:VK} (Pv:Nat→List V→Hp→Prop) (hk:kvs.length < sizeLine) (h0:Pv 0 [] H) (hlen:∀ i acc H,Pv i acc H→acc.length≤i)
  (hl:∀ i acc H,Pv i acc H→H a=some (.frz o (.dK kvs)))
  (hs:∀ i acc H2 k v,kvs[i]? = some (k,v)→Pv i acc H2→g (kV k) (inSt n fr σ) H2 fun σ4 H4=>tt σ4 H4 fun b H5=>if b=true then te σ4 H5 fun v H6=>Pv (i+1) (acc ++ [v]) H6 else Pv (i+1) acc H5)
  (hd:∀ acc H2,Pv kvs.length acc H2→∀ l,H2 l=none→Q (.ref l) (upd H2 l (.lst acc))):=
 comp_gen (J:=Itk a o kvs) (n:=n) (fr:=fr) (g:=g) (tt:=tt) (te:=te) (σ:=σ) (Q:=Q) Pv hk h0 hlen (fun i acc H hi p=>⟨hi,hl i acc H p⟩) (fun acc H p=>⟨rfl,hl _ acc H p⟩) (fun i acc H2 x H3 hi p y=>by
  obtain ⟨e,k,v,hk,ex⟩:=y
  subst e ex
  exact hs i acc _ k v hk p) hd
end L2
namespace L2
open PySem PySem.Spec PyProof.Rows
section
variable {P:Program} {w:World} {κ:Type} [DecidableEq κ] {knd:HeapKind P w κ} {A:Around} {E:Value→Shared→Prop} {s:Shared}
theorem meets_lenH (d:Addr) (hd:(d==sysModules)=false):MeetsIn P w (Builtin.«dict.__len__» ⟨[.ref d],[]⟩) (fun _ R s=>∃ xs,s.heap.DictOfH knd d xs∧R (.ok (.ret (.int xs.length s.toks))) { s with toks:=s.toks+1 }):=
 .of_wp fun A R s ⟨xs,hm,h⟩=>by
  obtain ⟨o,es,ep,ho,_,hdat,he,_⟩:=hm
  show wpAny _ _ (dictSize d >>= _) _ _ s
  unfold dictSize
  refine wpAny_bind (wpAny_bind (wpAny_dictEntries ho hdat (wpAny_pure ?_)))
  show wpAny _ _ (Builtin.Dict.pendingCount d >>= _) _ _ s
  refine wpAny_bind (wpAny_pendingCount_other hd (wpAny_ret_mkInt ?_))
  rw [Nat.add_zero,size_of_entries he]
  exact h
theorem lenH {d:Addr} {xs:List (κ × Addr × Value)} {Q:Value→Shared→Prop} (hd:(d==sysModules)=false) (hm:s.heap.DictOfH knd d xs) (hfit:(xs.length:Int) < 2 ^ 63) (h:Q (.int xs.length (s.toks+1)) { s with toks:=s.toks+1+1 }) :
  wpAny (model P w) A (call (.builtin "len") [.ref d]) Q E s:=by
 refine Calls.call_function_entry kind_len plain_len entry_len (args_len1 _) ?_
 unfold Builtin.«len»
 refine wpAny_bind (m:=oneArg "len" _) (wpAny_pure ?_)
 refine wpAny_bind (m:=callSpecial? (.ref d) (Str.ofString "__len__")) (wpAny_callSpecial?_slot (name:=Str.ofString "__len__") hm.typeIs F.slot_dict_len (call_meetsIn F.slot_dict_len hm.typeIs F.entry_dict_len (F.args_dict_len_1 _) (meets_lenH d hd) ⟨xs,hm,?_⟩))
 show wpAny _ _ _ _ _ { s with toks:=s.toks+1 }
 refine wpAny_bind (wpAny_holding (wpAny_pure (wpAny_bind (wpAny_letGo ?_))))
 show wpAny _ _ (if ((xs.length:Nat):Int) < 0 then _ else _) _ _ _
 rw [if_neg (by omega)]
 show wpAny _ _ (if ((xs.length:Nat):Int) ≥ 2 ^ 63 then _ else _) _ _ _
 rw [if_neg (by omega)]
 exact wpAny_bind (wpAny_mkInt (wpAny_pure ⟨_,rfl,h⟩))
end
section
variable {X:Cx}
theorem call_lenDK:CallR X (.builtin "len") (fun xs H Q=>∃ a kvs,xs=[V.ref a]∧Rd H a (.dK kvs)∧Q (.int kvs.length) H):=by
 intro pins s σ H xs us Q I r h
 obtain ⟨a,kvs,rfl,ha,q⟩:=h
 obtain ⟨u,rfl,ru⟩:=vals1 r
 obtain rfl:u=Value.ref a:=ru
 exact d_len I ha fun t s' I'=>⟨.int kvs.length,H,I',⟨t,rfl⟩,q⟩
theorem call_lenDT:CallR X (.builtin "len") (fun xs H Q=>∃ a kvs,xs=[V.ref a]∧Rd H a (.dT kvs)∧Q (.int kvs.length) H):=by
 intro pins s σ H xs us Q I r h
 obtain ⟨a,kvs,rfl,ha,q⟩:=h
 obtain ⟨u,rfl,ru⟩:=vals1 r
 obtain rfl:u=Value.ref a:=ru
 obtain ⟨z,hd,ks,rel,dd⟩:=dt_rd I.hok ha
 have hl:kvs.length=ks.length:=Paired.length rel
 refine lenH hd dd (by rw [← hl]; rw [sizeLine_eq] at z; omega) ⟨.int kvs.length,H,I.tok _,⟨s.toks+1,by rw [hl]⟩,q⟩
end
end L2
namespace L2
open PySem PySem.Spec PyProof.Rows
section
variable {X:Cx}
theorem intsU_at:∀ {us:List Value} {ns:List Int} {i:Nat} {u:Value},IntsAre us ns→us[i]? = some u→∃ n t,ns[i]? = some n∧u=.int n t
 | _,_,i,u,.nil,h=>by simp at h
 | _,_,0,u,.cons n t _,h=>by cases h; exact ⟨n,t,rfl,rfl⟩
 | _,_,i+1,u,.cons n t r,h=>by
  obtain ⟨m,t',e1,e2⟩:=intsU_at (i:=i) r (by simpa using h)
  exact ⟨m,t',by simpa using e1,e2⟩
inductive rIndexLI (x:V) (vs:List V) (H:Hp) (Q:VK):Prop
 | mk (l:Addr) (ns:List Int) (y:Int) (h1:x=.ref l) (h2:vs=[.int y]) (h3:H l=some (.lst (ns.map V.int))) (h4:y∈ns) (h5:Q (.int (ns.idxOf y:Nat)) H):rIndexLI x vs H Q
def rIndexL:V→List V→Hp→VK→Prop:=fun x vs H Q=>rIndexLI x vs H Q
theorem flat_ints (ns:List Int):(ns.map V.int).all flatV=true:=by
 induction ns with
 | nil=>rfl
 | cons e r ih=>rw [List.map_cons,List.all_cons,ih]; rfl
theorem mt_indexL:MtM X "list.index" rIndexL:=by
 intro pins s σ H x vs v us Q I rx rv h
 obtain ⟨l,ns,y,rfl,rfl,hH,hy,q⟩:=h
 cases rx
 obtain ⟨u,rfl,ru⟩:=rv.one
 obtain ⟨z,its,n,r,hl,e⟩:=I.lstM hH
 have hI:=intsAre_of r
 have hlen:its.length=ns.length:=by have:=r.length; rw [List.length_map] at this; exact this.symm
 have hj:=List.idxOf_lt_length_of_mem hy
 have heq:∀ (m:Nat) (hm:m < its.toArray.size),∃ k,ns[m]? = some k∧eqU (.int y) its.toArray[m]=(k==y):=fun m hm=>by
  rw [List.size_toArray] at hm
  obtain ⟨k,t,e1,e2⟩:=intsU_at (u:=its[m]) hI (List.getElem?_eq_getElem hm)
  refine ⟨k,e1,?_⟩
  rw [List.getElem_toArray,e2]
  rfl
 refine call_meets F.slot_list_index ⟨_,e,rfl⟩ F.entry_list_index (F.args_list_index_2 _ _)
  (SeqAt.list_indexAt l its.toArray n none #[] u (eqU (.int y)) (ns.idxOf y) (by rw [List.size_toArray]; omega) (by rw [List.length_map,sizeLine_eq] at z; omega) ?_ fun m hm hlt=>?_) ⟨e,fun w hw=>?_,?_⟩
 ·obtain ⟨k,e1,e2⟩:=heq (ns.idxOf y) (by rw [List.size_toArray]; omega)
  rw [e2]
  rw [List.getElem?_eq_getElem hj,List.getElem_idxOf] at e1
  cases e1
  simp
 ·obtain ⟨k,e1,e2⟩:=heq m hm
  rw [e2]
  have hk:k≠y:=fun z=>by
   have hmem:k∈ns.take (m+1):=by
    rw [List.take_add_one,e1]
    simp
   have h1:ns.idxOf y=(ns.take (m+1)).idxOf y:=by
    conv=>lhs; rw [← List.take_append_drop (m+1) ns]
    rw [List.idxOf_append,if_pos (z▸hmem)]
   have h2:=List.idxOf_lt_length_of_mem (z▸hmem:y∈ns.take (m+1))
   have h3:m < ns.length:=(List.getElem?_eq_some_iff.mp e1).1
   have h4:(ns.take m).length=m:=by rw [List.length_take]; omega
   by_cases c:y∈ns.take m
   ·have h5:ns.idxOf y=(ns.take m).idxOf y:=by
     conv=>lhs; rw [← List.take_append_drop m ns]
     rw [List.idxOf_append,if_pos c]
    have h6:=List.idxOf_lt_length_of_mem c
    rw [List.length_take] at h2
    omega
   ·rw [List.length_take] at h2
    omega
  exact beq_eq_false_iff_ne.mpr hk
 ·exact mem_eqAt ru rfl r (flat_ints ns) w (by simpa using hw)
 ·exact ⟨.int (ns.idxOf y:Nat),H,I.tok _,⟨_,rfl⟩,q⟩
inductive rSortII (K:PySem.W.Frag) (xs:List V) (H:Hp) (Q:VK):Prop
 | mk (p:Addr) (ns:List Int) (h1:xs=[.ref p]) (h2:SqL K H p (ns.map V.int)) (h3:ns.length < 64) (h4:∀ (ns':List Int) l,ns'.Perm ns→ns'.Pairwise (·≤·)→H l=none→Q (.ref l) (upd H l (.lst (ns'.map V.int)))):rSortII K xs H Q
def rSortI (K:PySem.W.Frag):List V→Hp→VK→Prop:=fun xs H Q=>rSortII K xs H Q
theorem call_sortI {K:PySem.W.Frag} (hK:X.K=K:=by rfl):CallR X (.builtin "sorted") (rSortI K):=by
 subst hK
 intro pins s σ H xs us Q I r h
 obtain ⟨p,ys,rfl,hq,h64,q⟩:=h
 obtain ⟨u,rfl,ru⟩:=vals1 r
 obtain rfl:u=Value.ref p:=ru
 obtain ⟨its,r',pl,hz⟩:=I.list hq
 have hlen:=r'.length
 rw [List.length_map] at hlen hz
 refine sorted_ints pl.isList (intsAre_of r') (by omega) fun out ss' a1 a2 a3=>?_
 obtain ⟨e,he⟩:=sortedAll_at s.heap its out
 have hn:H (s.heap.objs.size+1)=none:=I.hok.fresh (Nat.le_succ _)
 refine ⟨.ref (s.heap.objs.size+1),upd H (s.heap.objs.size+1) (.lst (ss'.map V.int)),I.laid (t':=s.toks) (fun _ _=>sortedAll_old) (Nat.le_succ _) ⟨?_,out.toList,e,vals_ints a1,?_⟩,rfl,q ss' _ a2 a3 hn⟩
 ·rw [List.length_map,a2.length_eq]
  exact hz
 ·simpa [seqObj] using he
def tListRg (te:TE):TE:=fun σ H Q=>te σ H fun x H1=>∃ n:Nat,x=.int (n:Int)∧n≤1000∧∀ l,H1 l=none→Q (.ref l) (upd H1 l (.lst ((List.range n).map fun i:Nat=>V.int (i:Int))))
theorem vals_rng:∀ (us:List Value) (k:Nat),(∀ (i:Nat) v,us[i]? = some v→∃ t,v=.int ((k:Int)+(i:Int)) t)→Vals ((List.range' k us.length).map fun i:Nat=>V.int (i:Int)) us
 | [],k,_=>.nil
 | u :: us,k,h=>by
  rw [List.length_cons,List.range'_succ,List.map_cons]
  refine .cons ?_ (vals_rng us (k+1) fun i v e=>?_)
  ·obtain ⟨t,e⟩:=h 0 u rfl
   exact ⟨t,by rw [e]; simp⟩
  ·obtain ⟨t,e'⟩:=h (i+1) v (by simpa using e)
   refine ⟨t,?_⟩
   rw [e']
   congr 1
   omega
theorem pe_listRg {e:Expr} {te:TE} {p p2 pos pos2:Pos} (hc:X.calm=true) (hg:Gl X "list") (hm:X.mg "list" = none) (hg2:Gl X "range") (hm2:X.mg "range" = none) (he:PE X e te)
  (h1:starEach [.Call (.Name "range" p2) [e] [] pos2] X.env=(false,eval (.Call (.Name "range" p2) [e] [] pos2) X.env) :: starEach [] X.env:=by rfl)
  (h2:starEach [e] X.env=(false,eval e X.env) :: starEach [] X.env:=by rfl):PE X (.Call (.Name "list" p) [.Call (.Name "range" p2) [e] [] pos2] [] pos) (tListRg te):=by
 intro pins s σ H Q I h
 refine wpAny_Call_Name_kw (ld_blt I hg hm bt_list ?_)
 refine PyProof.Rows.callWith_type1 ?_ h1 rfl
 rw [h1]
 show wpAny _ _ (spliced ((false,eval _ X.env) :: backTo pos (starEach [] X.env))) _ _ s
 refine Calls.spliced_cons (wpAny_Call_Name_kw (ld_blt I hg2 hm2 boot_range (PyProof.Rows.callWith_type1 (thn (pa_cons he pa_nil h2 pos2 pins s σ H (fun vs H1=>match vs with | [x]=>∃ n:Nat,x=.int (n:Int)∧n≤1000∧∀ l,H1 l=none→Q (.ref l) (upd H1 l (.lst ((List.range n).map fun i:Nat=>V.int (i:Int)))) | _=>False) I h) fun us s1 ⟨vs,H1,I1,r1,q1⟩=>?_) h2 rfl)))
 obtain ⟨x0,e0,n,e1,hn,q⟩:∃ x0,vs=[x0]∧∃ n:Nat,x0=.int (n:Int)∧n≤1000∧∀ l,H1 l=none→Q (.ref l) (upd H1 l (.lst ((List.range n).map fun i:Nat=>V.int (i:Int)))):=by
  match vs,q1 with
  | [x0],q1=>exact ⟨x0,rfl,q1⟩
 subst e0 e1
 obtain ⟨u,rfl,ru⟩:=Vals.one r1
 obtain ⟨t,rfl⟩:=ru
 refine call_range_1 (Calls.spliced_nil ?_)
 refine call_list_range (n:=n) (I1.ok.hd hc) (IsRange.new ..) (small_one (by omega) (by omega) (by omega) (by omega)) (by rw [rangeSize_one]; split <;> omega) (by omega) fun h' tk' acc c kp hD hacc=>?_
 have le:s1.heap.objs.size≤(s1.heap.push { cls:=.type "range",data:=.fields #[.int 0 s1.toks,.int (n:Int) t,.int 1 (s1.toks+1)] }).objs.size:=by rw [Heap.size_push]; exact Nat.le_succ _
 have kp':∀ b o,s1.heap.get? b=some o→h'.get? b=some o:=fun b o e=>kp b o (Heap.get?_push_of_some _ e)
 have hv:=vals_rng acc.toList 0 fun i v hi=>by
  obtain ⟨t,e⟩:=hacc.2 i v (by rw [← Array.getElem?_toList]; exact hi)
  exact ⟨t,by rw [e]; simp⟩
 rw [Array.length_toList,hacc.1,← List.range_eq_range'] at hv
 exact ⟨.ref _,_,I1.laid (t':=tk') kp' le (show ObjOk X.prog X.w _ h' _ (.lst ((List.range n).map fun i:Nat=>V.int (i:Int))) from ⟨by rw [List.length_map,List.length_range,sizeLine_eq]; omega,acc.toList,c,hv,by rw [Array.toArray_toList]; exact hD⟩),rfl,q _ (I1.hok.fresh le)⟩
end
end L2
namespace L2
open PySem PySem.Spec PyProof.Rows
def RawD (h:Heap) (d:Addr) (es:Array DictEntry) (ep:Nat):Prop:=∃ o,h.get? d=some o∧o.ExactDict∧o.data=.dict es ep
section
variable {P:Program} {w:World} {A:Around} {E:Value→Shared→Prop} {s:Shared} {it d:Addr} {i ep:Nat} {es:Array DictEntry}
theorem RawD.typeIs (hm:RawD s.heap d es ep):s.TypeIs (.ref d) "dict":=let ⟨o,h1,h2,_⟩:=hm; ⟨o,h1,h2.1⟩
theorem rawIter {Q:Value→Shared→Prop} (hs:(d==sysModules)=false) (hm:RawD s.heap d es ep) (q:Q (.ref s.heap.objs.size) { s with heap:=s.heap.push (kitO d es.size ep) }):wpAny (model P w) A (pyIter (.ref d)) Q E s:=by
 have ty:=hm.typeIs
 obtain ⟨o,e1,e2,e3⟩:=hm
 refine wpAny_pyIter_slot ty F.slot_dict_iter (wpAny_call_entry F.slot_dict_iter ty F.entry_dict_iter ?_ (F.args_dict_iter_1 _))
 unfold Builtin.«dict.__iter__»
 refine wpAny_bind ?_
 unfold Builtin.Dict.dictSlotNone
 refine wpAny_bind (wpAny_notOrdered_dict ty (wpAny_pure ?_))
 show wpAny _ _ (Builtin.Dict.showsAll d >>= _) _ _ s
 unfold Builtin.Dict.showsAll
 rw [if_neg (by rw [hs]; exact Bool.false_ne_true)]
 refine wpAny_bind (wpAny_pure (wpAny_bind (wpAny_dictEntries e1 e3 (wpAny_bind (wpAny_dictEpoch e1 e3 ?_)))))
 refine wpAny_bind (wpAny_newObj_type (wpAny_pure ⟨_,rfl,"dict_keyiterator",_,⟨_,Heap.get?_push_size _ rfl,rfl⟩,F.slot_dict_keyiterator_next.lookup,?_⟩))
 simpa [rawInt] using q
theorem rawBody_item {Q:Value→Shared→Prop} (hi:s.heap.IsKeyIter it d i es.size ep) (hm:RawD s.heap d es ep) (hlt:i < es.size) (q:∀ h',h'.IsKeyIter it d (i+1) es.size ep→Heap.SameBut it s.heap h'→Q es[i].key { s with heap:=h' }) :
  wpAny (model P w) A (Builtin.«dict_keyiterator.__next__» ⟨[.ref it],[]⟩) (fun fin s'=>∃ r,fin=.done (.ret r)∧Q r s') E s:=by
 obtain ⟨o,e0,ec,ed⟩:=id hi
 obtain ⟨od,eo,ecd,edd⟩:=id hm
 refine wpAny_bind (wpAny_pure (wpAny_bind (wpAny_bind ?_)))
 first | refine wpAny_bind (wpAny_typeNameOfWhole_keyiter hi.typeIs (wpAny_pure (wpAny_bind (wpAny_fieldsOf e0 ed ?_)))) | refine wpAny_bind (wpAny_typeNameOf_keyiter hi.typeIs (wpAny_pure (wpAny_bind (wpAny_fieldsOf e0 ed ?_))))
 simp only [show Builtin.Dict_items.ownsTuple "dict_keyiterator" = false by decide,Bool.false_eq_true,if_false]
 show wpAny _ _ (ite ((Value.ref d==Value.none)=true) _ _) _ _ s
 refine (if_neg (show ¬ (Value.ref d==Value.none)=true from Bool.false_ne_true))▸?_
 refine wpAny_bind (wpAny_pure (wpAny_bind (wpAny_dictEntries eo edd ?_)))
 rw [if_neg (by simp)]
 refine wpAny_bind (wpAny_pure (wpAny_bind (wpAny_dictEpoch eo edd ?_)))
 rw [if_neg (by simp)]
 refine wpAny_pure ?_
 simp only [show ¬ ((i:Int) < 0) from by omega,if_false,Int.toNat_natCast,Array.getElem?_eq_getElem hlt]
 refine wpAny_bind ?_
 first | refine wpAny_bind (wpAny_typeNameOfWhole_keyiter hi.typeIs (wpAny_pure (wpAny_bind (wpAny_isOneOf_keyiter hi.typeIs ?_)))) | refine wpAny_bind (wpAny_typeNameOf_keyiter hi.typeIs (wpAny_pure (wpAny_bind (wpAny_isOneOf_keyiter hi.typeIs ?_))))
 have hi':(s.heap.update it (Obj.mapFields (·.setIfInBounds 1 (rawInt ((i:Int)+1))))).IsKeyIter it d (i+1) es.size ep:=by
  refine ⟨_,Heap.get?_update_self _ e0 (Obj.isFreed_of_fields (Obj.data_mapFields ed _)),(Obj.cls_mapFields ..).trans ec,?_⟩
  rw [Obj.data_mapFields ed]
  simp [rawInt]
 refine wpAny_bind (m:=setField (.ref it) 1 (rawInt ((i:Int)+1))) (wpAny_setField e0 ed (by simp) (wpAny_bind (wpAny_holding (wpAny_bind (wpAny_isOneOf_keyiter (s:={ s with heap:=s.heap.update it (Obj.mapFields (·.setIfInBounds 1 (rawInt ((i:Int)+1)))) }) hi'.typeIs ?_)))))
 exact wpAny_pure (wpAny_pure ⟨_,rfl,q _ hi' (Heap.SameBut.update ..)⟩)
theorem rawDraw_item {Q:Value→Shared→Prop} (hi:s.heap.IsKeyIter it d i es.size ep) (hm:RawD s.heap d es ep) (hlt:i < es.size) (q:∀ h',h'.IsKeyIter it d (i+1) es.size ep→Heap.SameBut it s.heap h'→Q es[i].key { s with heap:=h' }) :
  wpAny (model P w) A (Builtin.SmallTypes.nextOf (.ref it)) Q E s:=by
 unfold Builtin.SmallTypes.nextOf
 refine wpAny_bind (wpAny_callSpecial?_slot (name:=Str.ofString "__next__") hi.typeIs F.slot_dict_keyiterator_next (wpAny_call_entry F.slot_dict_keyiterator_next hi.typeIs F.entry_dict_keyiterator_next ?_ (F.args_dict_keyiterator_next_1 _)))
 exact rawBody_item (Q:=fun v s'=>wpAny (model P w) A _ Q E s') hi hm hlt fun h' a b=>wpAny_pure (q h' a b)
theorem rawNext_item {Q:Option Value→Shared→Prop} (hi:s.heap.IsKeyIter it d i es.size ep) (hm:RawD s.heap d es ep) (hlt:i < es.size) (q:∀ h',h'.IsKeyIter it d (i+1) es.size ep→Heap.SameBut it s.heap h'→Q (some es[i].key) { s with heap:=h' }) :
  wpAny (model P w) A (pyNext (.ref it)) Q E s:=by
 unfold pyNext
 refine wpAny_bind (wpAny_attempt (wpAny_callSpecial?_slot (name:=Str.ofString "__next__") hi.typeIs F.slot_dict_keyiterator_next (wpAny_call_entry F.slot_dict_keyiterator_next hi.typeIs F.entry_dict_keyiterator_next ?_ (F.args_dict_keyiterator_next_1 _))))
 exact rawBody_item hi hm hlt fun h' a b=>wpAny_pure (q h' a b)
theorem rawBody_end {Qf:Fin→Shared→Prop} (hh:A.handled=none) (hi:s.heap.IsKeyIter it d i es.size ep) (hm:RawD s.heap d es ep) (hge:es.size≤i) (q:∀ h' e,Heap.ExtBut it s.heap h'→(∃ o,h'.get? e=some o∧o.cls=.type "StopIteration")→E (.ref e) { s with heap:=h' }) :
  wpAny (model P w) A (Builtin.«dict_keyiterator.__next__» ⟨[.ref it],[]⟩) Qf E s:=by
 obtain ⟨o,e0,ec,ed⟩:=id hi
 obtain ⟨od,eo,ecd,edd⟩:=id hm
 refine wpAny_bind (wpAny_pure (wpAny_bind (wpAny_bind ?_)))
 first | refine wpAny_bind (wpAny_typeNameOfWhole_keyiter hi.typeIs (wpAny_pure (wpAny_bind (wpAny_fieldsOf e0 ed ?_)))) | refine wpAny_bind (wpAny_typeNameOf_keyiter hi.typeIs (wpAny_pure (wpAny_bind (wpAny_fieldsOf e0 ed ?_))))
 simp only [show Builtin.Dict_items.ownsTuple "dict_keyiterator" = false by decide,Bool.false_eq_true,if_false]
 show wpAny _ _ (ite ((Value.ref d==Value.none)=true) _ _) _ _ s
 refine (if_neg (show ¬ (Value.ref d==Value.none)=true from Bool.false_ne_true))▸?_
 refine wpAny_bind (wpAny_pure (wpAny_bind (wpAny_dictEntries eo edd ?_)))
 rw [if_neg (by simp)]
 refine wpAny_bind (wpAny_pure (wpAny_bind (wpAny_dictEpoch eo edd ?_)))
 rw [if_neg (by simp)]
 refine wpAny_pure ?_
 simp only [show ¬ ((i:Int) < 0) from by omega,if_false,Int.toNat_natCast,Array.getElem?_eq_none hge]
 refine wpAny_bind ?_
 first | refine wpAny_bind (wpAny_typeNameOfWhole_keyiter hi.typeIs (wpAny_pure ?_)) | refine wpAny_bind (wpAny_typeNameOf_keyiter hi.typeIs (wpAny_pure ?_))
 refine wpAny_bind (m:=setField (.ref it) 0 .none) (wpAny_setField e0 ed (by simp) (wpAny_bind (m:=newExc (.type "StopIteration") []) ?_))
 simp only [newExc,newTuple,raiseNew]
 refine wpAny_bind (wpAny_newObj_type (wpAny_bind (m:=firstArgMember _ _) (wpAny_of_eq (a:=Value.none) (by first | rfl | (simp only [firstArgMember]; rfl)) (wpAny_newObj_type ?_ (by size_fits)))) (by size_fits))
 refine wpAny_bind (wpAny_handled ?_)
 rw [hh]
 exact wpAny_bind (wpAny_pure (wpAny_throw (q _ _ (((Heap.SameBut.update ..).extBut.push _).push _) ⟨_,Heap.get?_push_size _ rfl,rfl⟩)))
theorem rawDraw_end {Q:Value→Shared→Prop} (hh:A.handled=none) (hi:s.heap.IsKeyIter it d i es.size ep) (hm:RawD s.heap d es ep) (hge:es.size≤i) (q:∀ h' e,Heap.ExtBut it s.heap h'→(∃ o,h'.get? e=some o∧o.cls=.type "StopIteration")→E (.ref e) { s with heap:=h' }) :
  wpAny (model P w) A (Builtin.SmallTypes.nextOf (.ref it)) Q E s:=by
 unfold Builtin.SmallTypes.nextOf
 refine wpAny_bind (wpAny_callSpecial?_slot (name:=Str.ofString "__next__") hi.typeIs F.slot_dict_keyiterator_next (wpAny_call_entry F.slot_dict_keyiterator_next hi.typeIs F.entry_dict_keyiterator_next ?_ (F.args_dict_keyiterator_next_1 _)))
 exact rawBody_end (A:=A.in1) hh hi hm hge q
theorem rawNext_end {Q:Option Value→Shared→Prop} (hh:A.handled=none) (hi:s.heap.IsKeyIter it d i es.size ep) (hm:RawD s.heap d es ep) (hge:es.size≤i) (q:∀ h',Heap.ExtBut it s.heap h'→Q none { s with heap:=h' }) :
  wpAny (model P w) A (pyNext (.ref it)) Q E s:=by
 unfold pyNext
 refine wpAny_bind (wpAny_attempt (wpAny_callSpecial?_slot (name:=Str.ofString "__next__") hi.typeIs F.slot_dict_keyiterator_next (wpAny_call_entry F.slot_dict_keyiterator_next hi.typeIs F.entry_dict_keyiterator_next ?_ (F.args_dict_keyiterator_next_1 _))))
 refine rawBody_end (A:=A.in1) hh hi hm hge fun h' e eb ho=>?_
 refine wpAny_bind (wpAny_isInstance (T:="StopIteration") (b:=true) ho isSubtype_stop ?_)
 exact wpAny_pure (q _ eb)
open AutoSeq1 (wpAny_loadPart') in
theorem enumNewR (d:Addr) (es:Array DictEntry) (ep:Nat):MeetsIn P w (Builtin.«enumerate.__new__» ⟨[.type "enumerate",.ref d],[]⟩) (fun _ R s=>(d==sysModules)=false∧RawD s.heap d es ep∧R (.ok (.ret (.ref (s.heap.push (kitO d es.size ep)).objs.size))) { s with heap:=(s.heap.push (kitO d es.size ep)).push (enuO s.heap.objs.size) }):=
 .of_wp fun A R s h=>by
  obtain ⟨hp,g,dr,tk,os⟩:=s
  obtain ⟨hs,hm,q⟩:=h
  have hsub:=sub_enumerate
  obtain ⟨⟨c,dx,dt,sl⟩,ho,hx,hd⟩:=id hm
  obtain ⟨hc,hdx,hsl⟩:=hx
  obtain rfl:c=.type "dict":=hc
  obtain rfl:dt=.dict es ep:=hd
  wp_walk using wpAny_loadPart' ho
  refine wpAny_stack_any fun st=>wpAny_pure ?_
  split
  ·rename_i c _ _ _ _ _
   cases (c==Value.type "enumerate") <;> (wp_walk using wpAny_loadPart' ho,rawIter hs hm; exact ⟨_,rfl,q⟩)
  ·wp_walk using wpAny_loadPart' ho,rawIter hs hm
   exact ⟨_,rfl,q⟩
theorem call_enumR {Q:Value→Shared→Prop} (hs:(d==sysModules)=false) (hm:RawD s.heap d es ep)
  (q:∀ h',IsEnum h' (s.heap.objs.size+1) s.heap.objs.size 0 .none→h'.IsKeyIter s.heap.objs.size d 0 es.size ep→h'.objs.size=s.heap.objs.size+2→(∀ b o,s.heap.get? b=some o→h'.get? b=some o)→Q (.ref (s.heap.objs.size+1)) { s with heap:=h' }) :
  wpAny (model P w) A (call (.type "enumerate") [.ref d]) Q E s:=by
 refine callType_newIn F.called_enumerate (by decide) (F.typeCall_enumerate_1 _) (F.newCall_enumerate_1 _) (fun obj=>F.args_object_init_2 obj _) F.entry_enumerate_new (enumNewR d es ep) ⟨hs,hm,?_⟩
 have z:(s.heap.push (kitO d es.size ep)).objs.size=s.heap.objs.size+1:=Heap.size_push ..
 show _∧_
 have en:=Heap.get?_push_size (s.heap.push (kitO d es.size ep)) (o:=enuO s.heap.objs.size) rfl
 rw [z] at en ⊢
 exact ⟨⟨_,en,rfl⟩,q _ en ⟨_,Heap.get?_push_of_some _ (Heap.get?_push_size _ rfl),rfl,rfl⟩ (by rw [Heap.size_push,z]) fun b o x=>Heap.get?_push_of_some _ (Heap.get?_push_of_some _ x)⟩
theorem RawD.at' {h h':Heap} (x:RawD h d es ep) (e:∀ o,h.get? d=some o→h'.get? d=some o):RawD h' d es ep:=let ⟨o,a,b⟩:=x; ⟨o,e o a,b⟩
theorem drawsR (hh:A.handled=none) (it d:Addr) (hne:d≠it) (es:Array DictEntry) (ep:Nat):Draws P w A it [it,d] es.size (fun i v=>∃ hi:i < es.size,v=es[i].key) (fun i h=>h.IsKeyIter it d i es.size ep∧RawD h d es ep) where
 live:=fun _ _ ⟨⟨o,e,_⟩,_⟩=>⟨o,e⟩
 frame:=fun _ _ _ ⟨a,b⟩ k=>⟨a.at fun o e=>k it (by simp) o e,b.at' fun o e=>k d (by simp) o e⟩
 item:=fun i s Q E hi st q=>rawDraw_item st.1 st.2 hi fun h' a b=>q _ h' s.toks ⟨hi,rfl⟩ ⟨a,st.2.at' fun o e=>(b.2 d hne).trans e⟩ b
 done:=fun s Q E st q=>rawDraw_end hh st.1 st.2 (Nat.le_refl _) q
end
theorem rawT {P:Program} {w:World} {H:Hp} {h:Heap} {a:Addr} {o:Obj} {kvs:List (List Key × V)} (ok:HOk P w H h) (e:H a=some (.frz o (.dT kvs))) :
  (a==sysModules)=false∧∃ (es:Array DictEntry) (ep:Nat) (bs:List Addr),h.get? a=some o∧o.ExactDict∧o.data=.dict es ep∧es.toList.map (·.key)=bs.map Value.ref∧bs.length=kvs.length∧∀ (i:Nat) b k v,bs[i]? = some b→kvs[i]? = some (k,v)→H b=some (.tup (k.map kV)):=by
 obtain ⟨ho,z,y,xs,r,o',es,ep,h1,h2,h3,h4,h5⟩:=ok a _ e
 rw [ho] at h1
 cases h1
 refine ⟨y,es,ep,xs.map (·.2.1),ho,h2,h3,?_,by rw [List.length_map]; exact (Paired.length r).symm,?_⟩
 ·rw [h4,List.map_map,List.map_map]
  rfl
 ·have key:∀ {l:List (List Key × V)} {m:List (List Key × Addr × Value)},KT H l m→∀ (i:Nat) b k v,(m.map (·.2.1))[i]? = some b→l[i]? = some (k,v)→H b=some (.tup (k.map kV)):=by
   intro l m q
   induction q with
   | nil=>intro i b k v a1 _; simp at a1
   | @cons p q ps qs hq t ih=>
    intro i b k v a1 a2
    cases i with
    | zero=>
     cases a1
     cases a2
     exact hq.2.1
    | succ i=>exact ih i b k v (by simpa using a1) (by simpa using a2)
  exact key r
theorem key_at {es:Array DictEntry} {bs:List Addr} (h:es.toList.map (·.key)=bs.map Value.ref):es.size=bs.length∧∀ (i:Nat) (hi:i < es.size),∃ b,bs[i]? = some b∧es[i].key=.ref b:=by
 have hl:es.size=bs.length:=by
  have:=congrArg List.length h
  rwa [List.length_map,List.length_map,Array.length_toList] at this
 refine ⟨hl,fun i hi=>⟨bs[i]'(by omega),List.getElem?_eq_getElem (by omega),?_⟩⟩
 have:=congrArg (fun z:List Value=>z[i]?) h
 simp only [List.getElem?_map] at this
 rw [List.getElem?_eq_getElem (by rw [Array.length_toList]; exact hi),List.getElem?_eq_getElem (by omega)] at this
 simpa using this
def ItKT (a:Addr) (o:Obj) (kvs:List (List Key × V)) (bs:List Addr):It:=
 ⟨fun i H=>i < kvs.length∧H a=some (.frz o (.dT kvs)),fun i H x H'=>H'=H∧∃ b,bs[i]? = some b∧x=.ref b,fun i H=>i=kvs.length∧H a=some (.frz o (.dT kvs))⟩
theorem turn_dictT {P:Program} {w:World} {K:PySem.W.Frag} {tg:Expr} (a it:Addr) (o:Obj) (kvs:List (List Key × V)) (bs:List Addr) (es:Array DictEntry) (ep:Nat) (hx:o.ExactDict) (hd:o.data=.dict es ep) (hk:es.toList.map (·.key)=bs.map Value.ref) (hl:bs.length=kvs.length) :
  Turn P w K tg (ItKT a o kvs bs) [it] it (fun i h=>h.IsKeyIter it a i es.size ep) where
 mem:=by simp
 obj:=fun i h st b hb=>by
  have e:b=it:=by simpa using hb
  subst e
  obtain ⟨o,e,c,d⟩:=st
  exact ⟨o,e,fun v z=>by rw [d] at z; cases z⟩
 keep:=fun i h h' st k=>st.at fun o e=>k it (by simp) o e
 item:=by
  intro X hP hw hK hc i pins s σ H E I hf st hg
  subst hP hw hK
  obtain ⟨hi,hq⟩:=hg
  obtain ⟨k1,k2⟩:=key_at hk
  have hi':i < es.size:=by omega
  obtain ⟨b,hb,ek⟩:=k2 i hi'
  obtain ⟨f0,f1,f2,f3,f4,f5⟩:=hf it (by simp)
  refine rawNext_item st ⟨o,(I.hok a _ hq).1,hx,hd⟩ hi' fun h' st' sb=>?_
  have I1:Inv X pins σ H { s with heap:=h' }:=I.turned (t':=s.toks) (fun b o hb e=>(sb.2 b hb).trans e) f0 f1 f3 f4 f5
  obtain ⟨oi,e,c,d⟩:=id st'
  rw [ek]
  exact ⟨.ref b,rfl,go_of (s:={ s with heap:=h' }) e c d (by decide) ⟨.ref b,H,I1,rfl,⟨rfl,b,hb,rfl⟩,st',fun b hb=>(hf b hb).1⟩⟩
 done:=by
  intro X hP hw hK hc i pins s σ H E I hf st hg
  subst hP hw hK
  obtain ⟨hi,hq⟩:=hg
  obtain ⟨k1,_⟩:=key_at hk
  obtain ⟨f0,f1,f2,f3,f4,f5⟩:=hf it (by simp)
  exact rawNext_end (I.ok.hd hc) st ⟨o,(I.hok a _ hq).1,hx,hd⟩ (by omega) fun h' eb=>⟨rfl,I.turned (t':=s.toks) (fun b o hb e=>eb b o hb e) f0 f1 f3 f4 f5⟩
 self:=fun _ _ _ _ _ st h=>wpAny_pyIter_keyiter st h
theorem turn_enumDT {P:Program} {w:World} {K:PySem.W.Frag} {ex:List Expr} {n:Nat} {pos:Pos} (a e it:Addr) (hei:e≠it) (o:Obj) (kvs:List (List Key × V)) (bs:List Addr) (es:Array DictEntry) (ep:Nat) (ho:o.ExactDict) (hd:o.data=.dict es ep) (hk:es.toList.map (·.key)=bs.map Value.ref) :
  Turn P w K (.Tuple ex n pos) (ItE fun H xs=>H a=some (.frz o (.dT kvs))∧xs=bs.map V.ref) [e,it] e (fun i h=>(∃ old,IsEnum h e it i old)∧h.IsKeyIter it a i es.size ep) where
 mem:=by simp
 obj:=fun i h st b hb=>by
  obtain ⟨⟨old,he⟩,oi,e1,c1,d1⟩:=st
  have hb':b=e∨b=it:=by simpa using hb
  rcases hb' with z | z
  ·subst z
   exact ⟨_,he,fun v z=>by cases z⟩
  ·subst z
   exact ⟨oi,e1,fun v z=>by rw [d1] at z; cases z⟩
 keep:=fun i h h' st k=>⟨let ⟨old,he⟩:=st.1; ⟨old,k e (by simp) _ he⟩,st.2.at fun o q=>k it (by simp) o q⟩
 item:=by
  intro X hP hw hK hc i pins s σ H E I hf st hg
  subst hP hw hK
  obtain ⟨xs,x,⟨hq,hxs⟩,hx⟩:=hg
  have hd':RawD s.heap a es ep:=⟨o,(I.hok a _ hq).1,ho,hd⟩
  obtain ⟨k1,k2⟩:=key_at hk
  have hlt:i < es.size:=by
   have:=(List.getElem?_eq_some_iff.mp hx).1
   rw [hxs,List.length_map] at this
   omega
  obtain ⟨⟨old,he⟩,hit⟩:=st
  have hel:=Heap.lt_size he
  have hil:it < s.heap.objs.size:=by obtain ⟨o,q,_⟩:=id hit; exact Heap.lt_size q
  have nat:a≠it:=fun z=>by
   obtain ⟨o,q,c,_⟩:=id hit
   obtain ⟨o2,q2,c2,_⟩:=id hd'
   rw [z,q] at q2
   cases q2
   have c3:=c2.1
   rw [c] at c3
   injection c3 with c3
   exact absurd c3 (by decide)
  have nae:a≠e:=fun z=>by
   obtain ⟨o2,q2,c2,_⟩:=id hd'
   rw [z,he] at q2
   cases q2
   have c3:=c2.1
   injection c3 with c3
   exact absurd c3 (by decide)
  have hef:e∉[it,a]:=by simp [hei,Ne.symm nae]
  refine wpAny_pyNext_enum_itemD (drawsR (A:=X.A.in1) (I.ok.hd hc) it a nat es ep) he ⟨hit,hd'⟩ hlt hei hef fun u h1 tk hu heo hit1 ht1 hz1 hk1=>⟨_,rfl,?_⟩
  refine wpAny_letOwnedTupleGo_enum heo fun h2 he2 sb=>?_
  obtain ⟨hi,eu⟩:=hu
  obtain ⟨b,hb,ek⟩:=k2 i hi
  have ex:x=.ref b:=by
   rw [hxs,List.getElem?_map,hb] at hx
   exact (Option.some.inj hx).symm
  subst ex
  obtain ⟨I2,hn⟩:=enum_step (y:=.ref b) (t':=tk+1) I hf (by rw [eu,ek]; exact rfl) ht1 hk1 sb hel hil
  exact ⟨.ref s.heap.objs.size,_,I2,rfl,⟨_,.ref b,rfl,I.hok.fresh (Nat.le_refl _),rfl,fun ys hy=>by rw [hy.2,← hxs]; exact hx⟩,⟨⟨_,by simpa using he2⟩,hit1.1.at fun o q=>(sb.2 it (Ne.symm hei)).trans q⟩,hn⟩
 done:=by
  intro X hP hw hK hc i pins s σ H E I hf st hg
  subst hP hw hK
  obtain ⟨xs,⟨hq,hxs⟩,hx⟩:=hg
  have hd':RawD s.heap a es ep:=⟨o,(I.hok a _ hq).1,ho,hd⟩
  obtain ⟨k1,k2⟩:=key_at hk
  obtain ⟨⟨old,he⟩,hit⟩:=st
  have nat:a≠it:=fun z=>by
   obtain ⟨o,q,c,_⟩:=id hit
   obtain ⟨o2,q2,c2,_⟩:=id hd'
   rw [z,q] at q2
   cases q2
   have c3:=c2.1
   rw [c] at c3
   injection c3 with c3
   exact absurd c3 (by decide)
  obtain ⟨f0,f1,f2,f3,f4,f5⟩:=hf it (by simp)
  have ei:i=es.size:=by rw [← hx,hxs,List.length_map,k1]
  subst ei
  exact wpAny_pyNext_enum_endD (drawsR (A:=X.A.in1) (I.ok.hd hc) it a nat es ep) he ⟨hit,hd'⟩ fun h' eb=>⟨rfl,I.turned (t':=s.toks) (fun b o hb q=>eb b o hb q) f0 f1 f3 f4 f5⟩
 self:=fun _ _ _ _ _ st h=>let ⟨_,he⟩:=st.1; wpAny_pyIter_enum he h
def KeyTs (H:Hp) (kvs:List (List Key × V)) (bs:List Addr):Prop:=bs.length=kvs.length∧∀ (i:Nat) b k v,bs[i]? = some b→kvs[i]? = some (k,v)→H b=some (.tup (k.map kV))
section
variable {X:Cx} {tg:Expr}
theorem frzT {pins:List (Addr × Obj)} {σ:St} {H1:Hp} {s1:Shared} {a:Addr} {kvs:List (List Key × V)} (I1:Inv X pins σ H1 s1) (hd:H1 a=some (.dT kvs)):∃ o,Inv X pins σ (upd H1 a (.frz o (.dT kvs))) s1:=by
 obtain ⟨z,y,xs,r,o,es,ep,h1,h2,h3,h4,h5⟩:=I1.hok a _ hd
 refine ⟨o,I1.write (x:=a) (e:=a) (t':=s1.toks) (h':=s1.heap) (by rw [hd]; exact True.intro) (.inl rfl) (fun b u _ e=>e) ⟨o,h1⟩ ⟨h1,z,y,xs,?_,o,es,ep,h1,h2,h3,h4,h5⟩⟩
 have key:∀ {l:List (List Key × V)} {m:List (List Key × Addr × Value)},KT H1 l m→KT (upd H1 a (.frz o (.dT kvs))) l m:=by
  intro l m q
  induction q with
  | nil=>exact .nil
  | cons hq t ih=>exact .cons ⟨hq.1,by rw [upd_ne (ne_of hq.2.1 hd fun z=>nomatch z)]; exact hq.2.1,hq.2.2⟩ ih
 exact key r
def iDictT (te:TE):TI:=fun σ H R=>te σ H fun x H1=>∃ a kvs,x=.ref a∧((H1 a=some (.dT kvs)∧∀ o bs,KeyTs (upd H1 a (.frz o (.dT kvs))) kvs bs→R (ItKT a o kvs bs) (upd H1 a (.frz o (.dT kvs))))∨∃ o,H1 a=some (.frz o (.dT kvs))∧∀ bs,KeyTs H1 kvs bs→R (ItKT a o kvs bs) H1)
theorem pi_dictT {e:Expr} {te:TE} (he:PE X e te):PI X tg e (iDictT te):=by
 intro pins s σ H R I h
 refine thn (he pins s σ H _ I h) fun v s1 ⟨x,H1,I1,r1,q1⟩=>?_
 obtain ⟨a,kvs,e,q⟩:=q1
 subst e
 obtain rfl:v=Value.ref a:=r1
 have key:∀ (o:Obj) (H2:Hp),Inv X pins σ H2 s1→H2 a=some (.frz o (.dT kvs))→(∀ bs,KeyTs H2 kvs bs→R (ItKT a o kvs bs) H2)→wpAny (model X.prog X.w) X.A (pyIter (.ref a)) (PIE X pins σ tg R) X.xe s1:=by
  intro o H2 I2 h2 q2
  obtain ⟨hsm,es,ep,bs,g1,g2,g3,g4,g5,g6⟩:=rawT I2.hok h2
  refine rawIter hsm ⟨o,g1,g2,g3⟩ ?_
  refine ⟨s1.heap.objs.size,[s1.heap.objs.size],_,_,H2,rfl,I2.kept (t':=s1.toks) fun b o e=>Heap.get?_push_of_some _ e,turn_dictT a _ o kvs bs es ep g2 g3 g4 g5,⟨_,Heap.get?_push_size _ rfl,rfl,rfl⟩,fun b hb=>?_,q2 bs ⟨g5,g6⟩⟩
  have e:b=s1.heap.objs.size:=by simpa using hb
  subst e
  exact I2.fpOk (Nat.le_refl _) (I2.hok.fresh (Nat.le_refl _))
 rcases q with ⟨hd,q⟩ | ⟨o,hd,q⟩
 ·obtain ⟨o,I2⟩:=frzT I1 hd
  exact key o _ I2 upd_same (q o)
 ·exact key o H1 I1 hd q
theorem for_dictT {a:Addr} {o:Obj} {kvs:List (List Key × V)} {bs:List Addr} {g:TG} {tb:TS} {D:Ends} {σ:St} {H:Hp} (Pv:Nat→St→Hp→Prop) (h0:Pv 0 σ H) (hl:∀ i σ H,i≤kvs.length→Pv i σ H→H a=some (.frz o (.dT kvs)))
  (hs:∀ i b σ H,bs[i]? = some b→Pv i σ H→g (.ref b) σ H fun σ2 H2=>tb { D with nx:=Pv (i+1),ct:=Pv (i+1),bk:=D.nx } σ2 H2) (hd:∀ σ H,Pv kvs.length σ H→D.nx σ H) :
  ∃ W:Nat→Nat→St→Hp→Prop,(∃ m,W 0 m σ H)∧∀ i m σ H,W i m σ H→
   ((ItKT a o kvs bs).stop i H∧D.nx σ H)∨((ItKT a o kvs bs).go i H∧∃ N:St→Hp→Prop,(∀ σ' H',N σ' H'→∃ m',m' < m∧W (i+1) m' σ' H')∧∀ x H',(ItKT a o kvs bs).yld i H x H'→g x σ H' fun σ2 H2=>tb { D with nx:=N,ct:=N,bk:=D.nx } σ2 H2):=by
 refine ⟨fun i m σ H=>m=kvs.length - i∧i≤kvs.length∧Pv i σ H,⟨kvs.length,by simp,Nat.zero_le _,h0⟩,?_⟩
 rintro i m σ H ⟨rfl,hi,p⟩
 have q:=hl i σ H hi p
 by_cases hlt:i < kvs.length
 ·refine .inr ⟨⟨hlt,q⟩,Pv (i+1),fun σ' H' p'=>⟨kvs.length - (i+1),by omega,rfl,hlt,p'⟩,fun x H' y=>?_⟩
  obtain ⟨e,b,hb,ex⟩:=y
  subst e ex
  exact hs i b σ _ hb p
 ·have e:i=kvs.length:=by omega
  subst e
  exact .inl ⟨⟨rfl,q⟩,hd σ H p⟩
def comp_dictT {a:Addr} {o:Obj} {kvs:List (List Key × V)} {bs:List Addr} {n:Nat} {fr:List Nat} {g:TG} {tt:TT} {te:TE} {σ:St} {H:Hp} {Q:VK} (Pv:Nat→List V→Hp→Prop) (hk:kvs.length < sizeLine) (h0:Pv 0 [] H) (hlen:∀ i acc H,Pv i acc H→acc.length≤i)
  (hl:∀ i acc H,Pv i acc H→H a=some (.frz o (.dT kvs)))
  (hs:∀ i acc H2 b,bs[i]? = some b→Pv i acc H2→g (.ref b) (inSt n fr σ) H2 fun σ4 H4=>tt σ4 H4 fun b H5=>if b=true then te σ4 H5 fun v H6=>Pv (i+1) (acc ++ [v]) H6 else Pv (i+1) acc H5)
  (hd:∀ acc H2,Pv kvs.length acc H2→∀ l,H2 l=none→Q (.ref l) (upd H2 l (.lst acc))):=
 comp_gen (J:=ItKT a o kvs bs) (n:=n) (fr:=fr) (g:=g) (tt:=tt) (te:=te) (σ:=σ) (Q:=Q) Pv hk h0 hlen (fun i acc H hi p=>⟨hi,hl i acc H p⟩) (fun acc H p=>⟨rfl,hl _ acc H p⟩) (fun i acc H2 x H3 hi p y=>by
  obtain ⟨e,b,hb,ex⟩:=y
  subst e ex
  exact hs i acc _ b hb p) hd
end
section
variable {X:Cx} {ex:List Expr} {n:Nat} {tp:Pos}
def iEnumT (te:TE):TI:=fun σ H R=>te σ H fun x H1=>∃ a kvs,x=.ref a∧H1 a=some (.dT kvs)∧∀ o bs,KeyTs (upd H1 a (.frz o (.dT kvs))) kvs bs→R (ItE fun H xs=>H a=some (.frz o (.dT kvs))∧xs=bs.map V.ref) (upd H1 a (.frz o (.dT kvs)))
theorem pi_enumT {e:Expr} {te:TE} {p pos:Pos} (hg:Gl X "enumerate") (hm:X.mg "enumerate" = none) (he:PE X e te) (h2:starEach [e] X.env=(false,eval e X.env) :: starEach [] X.env:=by rfl):PI X (.Tuple ex n tp) (.Call (.Name "enumerate" p) [e] [] pos) (iEnumT te):=by
 intro pins s σ H R I h
 refine wpAny_Call_Name_kw (ld_blt I hg hm bt_enumerate (PyProof.Rows.callWith_type1 (thn (pa_cons he pa_nil h2 pos pins s σ H (fun vs H1=>match vs with | [x]=>∃ a kvs,x=.ref a∧H1 a=some (.dT kvs)∧∀ o bs,KeyTs (upd H1 a (.frz o (.dT kvs))) kvs bs→R (ItE fun H xs=>H a=some (.frz o (.dT kvs))∧xs=bs.map V.ref) (upd H1 a (.frz o (.dT kvs))) | _=>False) I h) fun us s1 ⟨vs,H1,I1,r1,q1⟩=>?_) h2 rfl))
 obtain ⟨x0,e0,a,kvs,e1,hd,q⟩:∃ x0,vs=[x0]∧∃ a kvs,x0=.ref a∧H1 a=some (.dT kvs)∧∀ o bs,KeyTs (upd H1 a (.frz o (.dT kvs))) kvs bs→R (ItE fun H xs=>H a=some (.frz o (.dT kvs))∧xs=bs.map V.ref) (upd H1 a (.frz o (.dT kvs))):=by
  match vs,q1 with
  | [x0],q1=>exact ⟨x0,rfl,q1⟩
 subst e0 e1
 obtain ⟨u,rfl,ru⟩:=Vals.one r1
 obtain rfl:u=Value.ref a:=ru
 obtain ⟨o,I2⟩:=frzT I1 hd
 obtain ⟨hsm,es,ep,bs,g1,g2,g3,g4,g5,g6⟩:=rawT I2.hok upd_same
 refine call_enumR hsm ⟨o,g1,g2,g3⟩ fun h' hE hI hsz hk=>wpAny_pyIter_enum hE ?_
 refine ⟨_,[s1.heap.objs.size+1,s1.heap.objs.size],_,_,_,rfl,I2.kept (t':=s1.toks) hk,turn_enumDT a _ _ (Nat.succ_ne_self _) o kvs bs es ep g2 g3 g4,⟨⟨_,hE⟩,hI⟩,fun b hb=>?_,q o bs ⟨g5,g6⟩⟩
 have hb':b=s1.heap.objs.size+1∨b=s1.heap.objs.size:=by simpa using hb
 rcases hb' with z | z
 ·rw [z]; exact I2.fpOk (Nat.le_succ _) (I2.hok.fresh (Nat.le_succ _))
 ·rw [z]; exact I2.fpOk (Nat.le_refl _) (I2.hok.fresh (Nat.le_refl _))
end
end L2
namespace L2
open PySem PySem.Spec PyProof.Rows
inductive tCallFI (P:Program) (w:World) (K:PySem.W.Frag) (mg:Str→Option Value) (base:Heap) (i:Nat) (n:Nat) (t:TA) (σ:St) (H:Hp) (Q:VK):Prop
 | mk (f:Addr) (fd:FuncData) (ps:List Str) (sp:Sp) (h1:FnOk P w K mg base CX0 n f fd ps sp) (h2:PySem.W.keepIn K (.ref f)=true) (h3:Binds K fd ps []) (h4:σ[i]? = some (some (.ref f))) (h5:t σ H fun vs H1=>sp vs H1 Q E0):tCallFI P w K mg base i n t σ H Q
def tCallF (P:Program) (w:World) (K:PySem.W.Frag) (mg:Str→Option Value) (base:Heap) (i n:Nat) (t:TA):TE:=fun σ H Q=>tCallFI P w K mg base i n t σ H Q
theorem pe_callF {X:Cx} {i:Nat} (n:Nat) {x:Str} {p pos:Pos} {e:Expr} {es:List Expr} {t:TA} (hr:Room n X.A) (ha:PA X (e :: es) t) (hN:X.N[i]? = some x:=by rfl) (hv:Vis X.env.scope x:=by first | exact Or.inl rfl | exact Or.inr (Or.inl rfl) | exact Or.inr (Or.inr rfl)) (hd:(x==("__debug__" : Str))=false:=by decide) (hcd:(x==("__classdict__" : Str))=false:=by decide)
  (he:starEach (e :: es) X.env=(false,eval e X.env) :: starEach es X.env:=by rfl) (hpl:(backTo pos (starEach es X.env)).any (·.1)=false:=by rfl):PE X (.Call (.Name x p) (e :: es) [] pos) (tCallF X.prog X.w X.K X.mg X.base i n t):=by
 intro pins s σ H Q I ⟨f,fd,ps,sp,F,hk,hb,hs,h⟩
 refine wpAny_Call_Name_kw (thn (pe_var hN hv hd hcd pins s σ H (fun v H1=>v=.ref f∧H1=H) I ⟨_,hs,rfl,rfl⟩) fun u s1 ⟨v,H1,I1,r,q⟩=>?_)
 obtain ⟨rfl,rfl⟩:=q
 obtain rfl:u=Value.ref f:=r
 refine PySem.W.callWith_K (h₀:=X.base) I1.ok.mod.kin hk (thn (ha pos pins s1 σ H1 _ I1 h) fun us s2 ⟨vs,H2,I2,r2,q2⟩=>⟨I2.kIn,?_⟩) he hpl
 exact run_fn F hr hb .nil pass0 I2 r2 (by rw [List.append_nil]; exact q2)
end L2
namespace L2
open PySem PySem.Spec PyProof.Rows
theorem noFill_tupMul:fillsNumberSlot (.type "tuple") "mul" = pure false:=
 PySem.fillsNumberSlot_seq (id:="tuple.__mul__") (r:=some (.builtin "tuple.__rmul__")) F.slot_tuple_mul.lookup (by decide +kernel) F.slot_tuple_rmul.lookup (by decide +kernel)
theorem rep_tup:seqRepeat? (.type "tuple")=pure (some (.builtin "tuple.__mul__")):=by
 unfold seqRepeat?
 rw [PySem.seqSlot_of (T:="tuple") (name:="__mul__") (id:="tuple.__mul__") F.slot_tuple_mul.lookup (by decide +kernel),PySem.seqSlot_of (T:="tuple") (name:="__rmul__") (id:="tuple.__rmul__") F.slot_tuple_rmul.lookup (by decide +kernel)]
 rfl
theorem rmul_tup (a:Int) (t:Tok) (l:Addr) (items:Array Value) (n:Nat) (dd:Option Addr) (sl:Array (Option Value)) :
  Meets (Builtin.«int.__rmul__» ⟨[.int a t,.ref l],[]⟩) (fun _ R s=>s.heap.get? l=some { cls:=.type "tuple",dict:=dd,data:=.seq items n,slots:=sl }∧R (.ok (.ret Value.notImplemented)) s):=
 .of_wp fun prog w A R s h=>by
  obtain ⟨hp,g,d,tk,os⟩:=s
  obtain ⟨hl,h⟩:=h
  wp_walk
  exact ⟨_,rfl,h⟩
open AutoSeq1 (wpAny_loadPart') in
theorem mul_tup1 (l:Addr) (items:Array Value) (n:Nat) (dd:Option Addr) (sl:Array (Option Value)) (u:Tok) :
  Meets (Builtin.«tuple.__mul__» ⟨[.ref l,.int 1 u],[]⟩) (fun _ R s=>s.heap.get? l=some { cls:=.type "tuple",dict:=dd,data:=.seq items n,slots:=sl }∧R (.ok (.ret (Value.ref l))) s):=
 .of_wp fun prog w A R s h=>by
  obtain ⟨hp,g,d,tk,os⟩:=s
  obtain ⟨hl,h⟩:=h
  have f1:=AutoSeq1.idx_int
  have f2:=AutoSeq1.sub_tuple_tuple
  wp_walk using wpAny_loadPart' hl
  exact ⟨_,rfl,h⟩
theorem rep_size (a:Array Value):∀ (n:Nat) (acc:Array Value),((List.replicate n a).foldl (· ++ ·) acc).size=acc.size+n * a.size
 | 0,acc=>by simp
 | n+1,acc=>by
  rw [List.replicate_succ,List.foldl_cons,rep_size a n,Array.size_append,Nat.succ_mul]
  omega
open AutoSeq1 (wpAny_loadPart') in
theorem mul_tupN (l:Addr) (items:Array Value) (n:Nat) (dd:Option Addr) (sl:Array (Option Value)) (k:Int) (u:Tok) (h1:2≤k) (h2:¬ items.isEmpty=true) (hz:items.size * k.toNat≤sizeLine) :
  Meets (Builtin.«tuple.__mul__» ⟨[.ref l,.int k u],[]⟩) (fun _ R s=>s.heap.get? l=some { cls:=.type "tuple",dict:=dd,data:=.seq items n,slots:=sl }∧R (.ok (.ret (Value.ref s.heap.objs.size))) { s with heap:=s.heap.push { cls:=Value.type "tuple",data:=Data.seq ((List.replicate k.toNat items).foldl (· ++ ·) #[]) } }):=
 .of_wp fun prog w A R s h=>by
  obtain ⟨hp,g,d,tk,os⟩:=s
  obtain ⟨hl,h⟩:=h
  have f1:=AutoSeq1.idx_int
  have f2:=AutoSeq1.sub_tuple_tuple
  have hs:0 < items.size:=by
   rcases Nat.eq_zero_or_pos items.size with z | z
   ·exact absurd (by simpa using z) h2
   ·exact z
  have hk:k.toNat≤sizeLine:=Nat.le_trans (Nat.le_mul_of_pos_left _ hs) hz
  have c1:¬ ((decide (k < -(2 ^ 63)) || decide (k ≥ 2 ^ 63))=true):=by
   rw [sizeLine_eq] at hk
   simp
   omega
  have c2:¬ ((items.isEmpty || k==1)=true):=by
   have:¬ k=1:=by omega
   simp [this]
   simpa using h2
  have c3:¬ ((decide (k≤0) || items.isEmpty)=true):=by
   have:¬ k≤0:=by omega
   simp [this]
   simpa using h2
  have hsz:((List.replicate k.toNat items).foldl (· ++ ·) #[]).size≤sizeLine:=by
   rw [rep_size,Array.size_empty,Nat.zero_add,Nat.mul_comm]
   exact hz
  wp_walk using wpAny_loadPart' hl
  rw [if_neg c1]
  wp_walk using wpAny_loadPart' hl
  rw [if_neg c2]
  show wpAny _ _ (ite ((decide (k≤0) || items.isEmpty)=true) _ _) _ _ _
  rw [if_neg c3]
  have em:(items.size:Int) * k=((items.size * k.toNat:Nat):Int):=by
   rw [Int.natCast_mul,show ((k.toNat:Nat):Int)=k by omega]
  have c4:¬ ((items.size:Int) * k > (2 ^ 63 - 1) / 8):=by
   rw [em]
   rw [sizeLine_eq] at hz
   omega
  have c5:¬ Builtin.Tuple.tupleTooMany ((items.size:Int) * k)=true:=by
   rw [em]
   intro z
   have z':((items.size * k.toNat:Nat):Int) > (sizeLine:Int):=of_decide_eq_true z
   omega
  show wpAny _ _ (ite ((items.size:Int) * k > (2 ^ 63 - 1) / 8) _ _) _ _ _
  rw [if_neg c4]
  show wpAny _ _ (ite (Builtin.Tuple.tupleTooMany ((items.size:Int) * k)=true) _ _) _ _ _
  rw [if_neg c5]
  wp_walk
  exact ⟨_,rfl,h⟩
section
variable {X:Cx}
inductive rRepTI (x:V) (y:V) (H:Hp) (Q:VK):Prop
 | mk (a:Addr) (xs:List V) (n:Nat) (h1:x=.ref a) (h2:y=.int (n:Int)) (h3:H a=some (.tup xs)) (h4:xs≠[]) (h5:0 < n) (h6:xs.length * n≤1000) (h7:∀ p H',Same H H'→H' p=some (.tup (List.replicate n xs).flatten)→Q (.ref p) H'):rRepTI x y H Q
def rRepT:R2:=fun x y H Q=>rRepTI x y H Q
theorem op_repT:OpR X (binaryOp .Mult) rRepT:=by
 intro pins s σ H x y v u Q I rx ry h
 obtain ⟨a,xs,n,rfl,rfl,ha,hne,hn,hz,q⟩:=h
 obtain rfl:v=Value.ref a:=rx
 obtain ⟨t,rfl⟩:=ry
 obtain ⟨its,r,ht,_⟩:=I.tuple (SqT.of ha)
 obtain ⟨⟨cls,dd,data,sl⟩,ho,hc,m,hd⟩:=id ht
 simp only at hc hd
 subst hc hd
 have hl:=r.length
 refine wpAny_binaryOp_repeat_ref (T:="tuple") (U:="int") (by decide) ⟨_,ho,rfl⟩ (fun s'=>typeIs_int s' n t) noFill_tupMul F.fills_int_mul F.slot_int_rmul rep_tup F.slot_int_index.lookup
  (call_meets F.slot_int_rmul (typeIs_int s n t) F.entry_int_rmul (F.args_int_rmul_2 _ _) (rmul_tup n t a its.toArray m dd sl) ⟨ho,rfl,⟨_,ho,rfl⟩,?_⟩)
 by_cases c:n=1
 ·subst c
  refine call_meets F.slot_tuple_mul ⟨_,ho,rfl⟩ F.entry_tuple_mul (F.args_tuple_mul_2 _ _) (mul_tup1 a its.toArray m dd sl t) ⟨ho,.ref a,H,I,rfl,q a H (Same.refl _) ?_⟩
  simpa using ha
 ·have hnl:its.length * n≤sizeLine:=by rw [← hl,sizeLine_eq]; omega
  refine call_meets F.slot_tuple_mul ⟨_,ho,rfl⟩ F.entry_tuple_mul (F.args_tuple_mul_2 _ _) (mul_tupN a its.toArray m dd sl (n:Int) t (by omega) (fun z=>hne (r.nil_iff.mp (by simpa using z))) (by rw [List.size_toArray,Int.toNat_natCast]; exact hnl)) ⟨ho,?_⟩
  have e:List.foldl (fun x1 x2=>x1 ++ x2) #[] (List.replicate ((n:Int)).toNat its.toArray)=(List.replicate n its).flatten.toArray:=by
   have:=foldl_rep its n []
   rw [List.nil_append] at this
   rw [Int.toNat_natCast]
   exact this
  rw [e]
  have hnn:H s.heap.objs.size=none:=I.hok.fresh (Nat.le_refl _)
  refine ⟨.ref s.heap.objs.size,_,I.laid (t':=s.toks) (o:=.tup (List.replicate n xs).flatten) (fun b ob q=>Heap.get?_push_of_some _ q) (Nat.le_refl _) ?_,rfl,q _ _ (same_new hnn _) upd_same⟩
  exact ⟨by rw [len_rep,sizeLine_eq,Nat.mul_comm]; omega,_,r.rep n,IsTup.new _ _⟩
inductive rCatGI (x:V) (y:V) (H:Hp) (Q:VK):Prop
 | mk (a b:Addr) (xs ys:List V) (h1:x=.ref a) (h2:y=.ref b) (h3:H a=some (.tup xs)) (h4:H b=some (.tup ys)) (h5:xs.length+ys.length≤1000) (h6:∀ p H',Same H H'→H' p=some (.tup (xs ++ ys))→Q (.ref p) H'):rCatGI x y H Q
def rCatG (K:PySem.W.Frag):R2:=fun x y H Q=>rCatGI x y H Q
theorem op_catG {K:PySem.W.Frag} (hK:X.K=K:=by rfl):OpR X (binaryOp .Add) (rCatG K):=by
 subst hK
 intro pins s σ H x y v u Q I rx ry h
 obtain ⟨a,b,xs,ys,rfl,rfl,ha,hb,hz,q⟩:=h
 by_cases c:xs=[]
 ·obtain rfl:v=Value.ref a:=rx
  obtain rfl:u=Value.ref b:=ry
  obtain ⟨its,r1,p1,_⟩:=I.tuple (SqT.of ha)
  obtain ⟨its2,r2,p2,_⟩:=I.tuple (SqT.of hb)
  obtain ⟨⟨cls,dd,data,sl⟩,ho,hc,n,hd⟩:=id p1
  obtain ⟨⟨cls2,dd2,data2,sl2⟩,ho2,hc2,n2,hd2⟩:=id p2
  simp only at hc hd hc2 hd2
  subst hc hd hc2 hd2
  refine concat_meets ⟨_,ho,rfl⟩ ⟨_,ho2,rfl⟩ noFill_tuple_add seq_tuple_add PySem.F.slot_tuple_add PySem.F.entry_tuple_add (PySem.F.args_tuple_add_2 _ _) (tuple_addW0 a b its.toArray its2.toArray n n2 dd dd2 sl sl2 (by simpa using r1.nil_iff.mpr c)) ⟨ho,ho2,.ref b,H,I,rfl,q b H (Same.refl _) ?_⟩
  rw [c,List.nil_append]
  exact hb
 ·refine op_catT pins s σ H (.ref a) (.ref b) v u Q I rx ry ⟨a,b,xs,ys,rfl,rfl,SqT.of ha,SqT.of hb,c,by rw [sizeLine_eq]; omega,fun e=>q a H (Same.refl _) ?_,fun _ p hp=>q p _ (same_new hp _) upd_same⟩
  rw [e,List.append_nil]
  exact ha
end
end L2
namespace L2
open PySem PySem.Spec PyProof.Rows
section
variable {M:Model} {A:Around} {E:Value→Shared→Prop} {s:Shared} {base:Heap} {env:Env} {outer:List Env} {L e C:Addr} {d:Option Addr}
end
section
variable {X:Cx} {pins:List (Addr × Obj)} {σ:St} {H:Hp} {s:Shared} {a C:Addr} {d:Option Addr} {M:Model} {A:Around} {E':Value→Shared→Prop}
end
section
variable {X:Cx} {E:St→XK}
end
section
variable {X:Cx} {pins pins':List (Addr × Obj)} {σ:St} {H:Hp} {s:Shared} {A:Around} {c:Bool} {pn:List (Addr × Obj)} {xe:Value→Shared→Prop}
end
end L2
namespace L2
open PySem PySem.Spec PyProof.Rows
section
variable {X:Cx} {pins:List (Addr × Obj)} {σ:St} {H:Hp} {s:Shared} {a C:Addr} {fs:List (Str × V)} {A:Around} {E:Value→Shared→Prop}
end
section
variable {P:Program} {w:World} {K:PySem.W.Frag} {mg:Str→Option Value} {base:Heap}
end
end L2
namespace L2
open PySem PySem.Spec PyProof.Rows
section
variable {X:Cx} {es:List Expr} {n:Nat} {tp:Pos}
end
end L2
namespace L2
open PySem PySem.Spec PyProof.Rows
section
variable {P:Program} {w:World} {A:Around} {E:Value→Shared→Prop} {s:Shared} {r t:Addr} {items:Array Value}
open AutoSeq1 (wpAny_loadPart') in
end
section
variable {X:Cx}
end
end L2
namespace L2
open PySem PySem.Spec PyProof.Rows
section
variable {X:Cx}
end
end L2
namespace L2
open PySem PySem.Spec PyProof.Rows
end L2
namespace My
open PySem PySem.Spec PyProof.Rows L2
def top (i:Nat):Stmt:=PySem.Challenge.pw_spreadwords_k26_whole_put_together_and_c.main.body.getD i (.Pass ⟨0,0,0,0⟩)
abbrev s_room_behind:Stmt:=top 4
abbrev s_takes:Stmt:=top 5
abbrev s_look_fit:Stmt:=top 6
abbrev s_pair_behind:Stmt:=top 7
abbrev s_walked:Stmt:=top 9
abbrev s_machine_from:Stmt:=top 10
abbrev s_first_like:Stmt:=top 12
abbrev s_like_rooms:Stmt:=top 13
abbrev s_least:Stmt:=top 14
abbrev s_parting_text:Stmt:=top 15
abbrev s_contrary:Stmt:=top 17
abbrev s_both:Stmt:=top 18
abbrev s_either:Stmt:=top 19
abbrev s_behind:Stmt:=top 21
abbrev s_ahead:Stmt:=top 22
abbrev s_law_flow:Stmt:=top 24
abbrev s_law_pick:Stmt:=top 25
abbrev s_law_letters:Stmt:=top 26
abbrev s_law_word:Stmt:=top 27
abbrev s_law_machine:Stmt:=top 28
abbrev s_law_rising_machine:Stmt:=top 29
abbrev s_law_least:Stmt:=top 30
abbrev s_law_same_otherwise:Stmt:=top 31
abbrev s_law_near:Stmt:=top 32
abbrev s_law_some:Stmt:=top 33
abbrev s_law_joined_right:Stmt:=top 34
abbrev s_law_cut_right:Stmt:=top 35
abbrev s_law:Stmt:=top 36
theorem sc_room_behind:FnScope ["machine","room","text","letters","steps","behind","letter"] ["machine","room","text"] (defScope s_room_behind):=⟨rfl,rfl,rfl,by decide +kernel,rfl,by decide +kernel,by decide +kernel⟩
theorem sc_takes:FnScope ["machine","text"] ["machine","text"] (defScope s_takes):=⟨rfl,rfl,rfl,by decide +kernel,rfl,by decide +kernel,by decide +kernel⟩
theorem sc_look_fit:FnScope ["one","other"] ["one","other"] (defScope s_look_fit):=⟨rfl,rfl,rfl,by decide +kernel,rfl,by decide +kernel,by decide +kernel⟩
theorem sc_pair_behind:FnScope ["one","other","pair","letter"] ["one","other","pair","letter"] (defScope s_pair_behind):=⟨rfl,rfl,rfl,by decide +kernel,rfl,by decide +kernel,by decide +kernel⟩
theorem sc_walked:FnScope ["letters","begin","step","texts","level","longer","place","letter","ahead"] ["letters","begin","step"] (defScope s_walked):=⟨rfl,rfl,rfl,by decide +kernel,rfl,by decide +kernel,by decide +kernel⟩
theorem sc_machine_from:FnScope ["letters","begin","step","is_end","numbers","number","place","ends","steps"] ["letters","begin","step","is_end"] (defScope s_machine_from):=⟨rfl,rfl,rfl,by decide +kernel,rfl,by decide +kernel,by decide +kernel⟩
theorem sc_first_like:FnScope ["rows","firsts"] ["rows"] (defScope s_first_like):=⟨rfl,rfl,rfl,by decide +kernel,rfl,by decide +kernel,by decide +kernel⟩
theorem sc_like_rooms:FnScope ["machine","steps","likes","count","rows","room","row"] ["machine"] (defScope s_like_rooms):=⟨rfl,rfl,rfl,by decide +kernel,rfl,by decide +kernel,by decide +kernel⟩
theorem sc_least:FnScope ["machine","likes","step"] ["machine"] (defScope s_least):=⟨rfl,rfl,rfl,by decide +kernel,rfl,by decide +kernel,by decide +kernel⟩
theorem sc_parting_text:FnScope ["one","other","begins","texts","pair"] ["one","other"] (defScope s_parting_text):=⟨rfl,rfl,rfl,by decide +kernel,rfl,by decide +kernel,by decide +kernel⟩
theorem sc_contrary:FnScope ["machine","ends"] ["machine"] (defScope s_contrary):=⟨rfl,rfl,rfl,by decide +kernel,rfl,by decide +kernel,by decide +kernel⟩
theorem sc_both:FnScope ["one","other","step","is_end"] ["one","other"] (defScope s_both):=⟨rfl,rfl,rfl,by decide +kernel,rfl,by decide +kernel,by decide +kernel⟩
theorem sc_either:FnScope ["one","other"] ["one","other"] (defScope s_either):=⟨rfl,rfl,rfl,by decide +kernel,rfl,by decide +kernel,by decide +kernel⟩
theorem sc_behind:FnScope ["machine","word","begin"] ["machine","word"] (defScope s_behind):=⟨rfl,rfl,rfl,by decide +kernel,rfl,by decide +kernel,by decide +kernel⟩
theorem sc_ahead:FnScope ["machine","word","ends"] ["machine","word"] (defScope s_ahead):=⟨rfl,rfl,rfl,by decide +kernel,rfl,by decide +kernel,by decide +kernel⟩
theorem sc_law_flow:FnScope ["_law_script"] ["_law_script"] (defScope s_law_flow):=⟨rfl,rfl,rfl,by decide +kernel,rfl,by decide +kernel,by decide +kernel⟩
theorem sc_law_pick:FnScope ["_law_flow_here","_law_many","_law_cell","_law_digit"] ["_law_flow_here","_law_many"] (defScope s_law_pick):=⟨rfl,rfl,rfl,by decide +kernel,rfl,by decide +kernel,by decide +kernel⟩
theorem sc_law_letters:FnScope ["_law_flow_here","_law_many","_law_left"] ["_law_flow_here","_law_many"] (defScope s_law_letters):=⟨rfl,rfl,rfl,by decide +kernel,rfl,by decide +kernel,by decide +kernel⟩
theorem sc_law_word:FnScope ["_law_flow_here","_law_letters_here","_law_most","_law_again","_law_many","_law_piece"] ["_law_flow_here","_law_letters_here","_law_most"] (defScope s_law_word):=⟨rfl,rfl,rfl,by decide +kernel,rfl,by decide +kernel,by decide +kernel⟩
theorem sc_law_machine:FnScope ["_law_flow_here","_law_letters_here","_law_most","_law_rooms","_law_ends","_law_steps","_law_room"] ["_law_flow_here","_law_letters_here","_law_most"] (defScope s_law_machine):=⟨rfl,rfl,rfl,by decide +kernel,rfl,by decide +kernel,by decide +kernel⟩
theorem sc_law_rising_machine:FnScope ["_law_flow_here","_law_letters_here","_law_most","_law_rooms","_law_ends","_law_steps","_law_room","_law_row","_law_letter","_law_stays"] ["_law_flow_here","_law_letters_here","_law_most"] (defScope s_law_rising_machine):=⟨rfl,rfl,rfl,by decide +kernel,rfl,by decide +kernel,by decide +kernel⟩
theorem sc_law_least:FnScope ["_law_machine_here","_law_letters_here","_law_begin","_law_ends","_law_steps","_law_sort","_law_many","_law_rows","_law_known","_law_row","_law_order","_law_numbers","_law_at","_law_to","_law_found"] ["_law_machine_here"] (defScope s_law_least):=⟨rfl,rfl,rfl,by decide +kernel,rfl,by decide +kernel,by decide +kernel⟩
theorem sc_law_same_otherwise:FnScope ["_law_flow_here","_law_machine_here","_law_most","_law_letters_here","_law_begin","_law_ends","_law_steps","_law_turn","_law_like","_law_row","_law_at","_law_left","_law_order","_law_rows"] ["_law_flow_here","_law_machine_here","_law_most"] (defScope s_law_same_otherwise):=⟨rfl,rfl,rfl,by decide +kernel,rfl,by decide +kernel,by decide +kernel⟩
theorem sc_law_near:FnScope ["_law_flow_here","_law_machine_here","_law_way","_law_letters_here","_law_begin","_law_ends","_law_steps","_law_other","_law_at","_law_some_here","_law_row"] ["_law_flow_here","_law_machine_here"] (defScope s_law_near):=⟨rfl,rfl,rfl,by decide +kernel,rfl,by decide +kernel,by decide +kernel⟩
theorem sc_law_some:FnScope ["_law_flow_here","_law_rising","_law_letters_here"] ["_law_flow_here"] (defScope s_law_some):=⟨rfl,rfl,rfl,by decide +kernel,rfl,by decide +kernel,by decide +kernel⟩
theorem sc_law_joined_right:FnScope ["_law_one","_law_other","_law_word_here","_law_mine","_law_theirs","_law_joining"] ["_law_one","_law_other","_law_word_here"] (defScope s_law_joined_right):=⟨rfl,rfl,rfl,by decide +kernel,rfl,by decide +kernel,by decide +kernel⟩
theorem sc_law_cut_right:FnScope ["_law_machine_here","_law_word_here","_law_more","_law_one"] ["_law_machine_here","_law_word_here","_law_more"] (defScope s_law_cut_right):=⟨rfl,rfl,rfl,by decide +kernel,rfl,by decide +kernel,by decide +kernel⟩
theorem sc_law:FnScope ["_law_script","_law_flow_here","_law_one","_law_other","_law_word_here","_law_text","_law_cut"] ["_law_script"] (defScope s_law):=⟨rfl,rfl,rfl,by decide +kernel,rfl,by decide +kernel,by decide +kernel⟩
theorem nd_law_letters_0:(inNm ["_law_k"] ["_law_flow_here","_law_many","_law_left"] [0,2]).Nodup:=by decide +kernel
theorem nd_law_word_0:(inNm ["_law_k"] ["_law_flow_here","_law_letters_here","_law_most","_law_again","_law_many","_law_piece"] [0,1]).Nodup:=by decide +kernel
theorem nd_law_word_1:(inNm ["_law_k"] ["_law_flow_here","_law_letters_here","_law_most","_law_again","_law_many","_law_piece"] [0,1]).Nodup:=by decide +kernel
theorem nd_like_rooms_0:(inNm ["room"] ["machine","steps","likes","count","rows","room","row"] [0]).Nodup:=by decide +kernel
theorem nd_like_rooms_1:(inNm ["ahead"] ["machine","steps","likes","count","rows","room","row"] [2]).Nodup:=by decide +kernel
theorem nd_machine_from_0:(inNm ["place"] ["letters","begin","step","is_end","numbers","number","place","ends","steps"] [3,4]).Nodup:=by decide +kernel
theorem nd_machine_from_1:(inNm ["letter"] ["letters","begin","step","is_end","numbers","number","place","ends","steps"] [2,4,6]).Nodup:=by decide +kernel
theorem nd_law_machine_0:(inNm ["_law_room"] ["_law_flow_here","_law_letters_here","_law_most","_law_rooms","_law_ends","_law_steps","_law_room"] [0]).Nodup:=by decide +kernel
theorem nd_law_machine_1:(inNm ["_law_letter"] ["_law_flow_here","_law_letters_here","_law_most","_law_rooms","_law_ends","_law_steps","_law_room"] [0,3]).Nodup:=by decide +kernel
theorem nd_contrary_0:(inNm ["room"] ["machine","ends"] [0]).Nodup:=by decide +kernel
theorem nd_ahead_0:(inNm ["room"] ["machine","word","ends"] [0,1]).Nodup:=by decide +kernel
theorem nd_law_least_0:(inNm ["_law_room"] ["_law_machine_here","_law_letters_here","_law_begin","_law_ends","_law_steps","_law_sort","_law_many","_law_rows","_law_known","_law_row","_law_order","_law_numbers","_law_at","_law_to","_law_found"] [3]).Nodup:=by decide +kernel
theorem nd_law_least_1:(inNm ["_law_room"] ["_law_machine_here","_law_letters_here","_law_begin","_law_ends","_law_steps","_law_sort","_law_many","_law_rows","_law_known","_law_row","_law_order","_law_numbers","_law_at","_law_to","_law_found"] [4,5]).Nodup:=by decide +kernel
theorem nd_law_least_2:(inNm ["_law_to"] ["_law_room","_law_steps","_law_sort"] [2]).Nodup:=by decide +kernel
theorem nd_law_least_3:(inNm ["_law_row"] ["_law_machine_here","_law_letters_here","_law_begin","_law_ends","_law_steps","_law_sort","_law_many","_law_rows","_law_known","_law_row","_law_order","_law_numbers","_law_at","_law_to","_law_found"] [8]).Nodup:=by decide +kernel
theorem nd_law_least_4:(inNm ["_law_room"] ["_law_machine_here","_law_letters_here","_law_begin","_law_ends","_law_steps","_law_sort","_law_many","_law_rows","_law_known","_law_row","_law_order","_law_numbers","_law_at","_law_to","_law_found"] [4,5,11]).Nodup:=by decide +kernel
theorem nd_law_least_5:(inNm ["_law_to"] ["_law_room","_law_steps","_law_sort","_law_numbers"] [2,3]).Nodup:=by decide +kernel
theorem nd_law_least_6:(inNm ["_law_at","_law_room"] ["_law_machine_here","_law_letters_here","_law_begin","_law_ends","_law_steps","_law_sort","_law_many","_law_rows","_law_known","_law_row","_law_order","_law_numbers","_law_at","_law_to","_law_found"] [3]).Nodup:=by decide +kernel
theorem nd_law_rising_machine_0:(inNm ["_law_room"] ["_law_flow_here","_law_letters_here","_law_most","_law_rooms","_law_ends","_law_steps","_law_room","_law_row","_law_letter","_law_stays"] [0]).Nodup:=by decide +kernel
theorem nd_law_same_otherwise_0:(inNm ["_law_row"] ["_law_flow_here","_law_machine_here","_law_most","_law_letters_here","_law_begin","_law_ends","_law_steps","_law_turn","_law_like","_law_row","_law_at","_law_left","_law_order","_law_rows"] []).Nodup:=by decide +kernel
theorem nd_law_same_otherwise_1:(inNm ["_law_room"] ["_law_flow_here","_law_machine_here","_law_most","_law_letters_here","_law_begin","_law_ends","_law_steps","_law_turn","_law_like","_law_row","_law_at","_law_left","_law_order","_law_rows"] [0,11]).Nodup:=by decide +kernel
theorem nd_law_same_otherwise_2:(inNm ["_law_room"] ["_law_flow_here","_law_machine_here","_law_most","_law_letters_here","_law_begin","_law_ends","_law_steps","_law_turn","_law_like","_law_row","_law_at","_law_left","_law_order","_law_rows"] [6,12]).Nodup:=by decide +kernel
theorem nd_law_same_otherwise_3:(inNm ["_law_to"] ["_law_room","_law_steps","_law_order"] [2]).Nodup:=by decide +kernel
theorem nd_law_same_otherwise_4:(inNm ["_law_room"] ["_law_flow_here","_law_machine_here","_law_most","_law_letters_here","_law_begin","_law_ends","_law_steps","_law_turn","_law_like","_law_row","_law_at","_law_left","_law_order","_law_rows"] [12]).Nodup:=by decide +kernel
theorem nd_law_near_0:(inNm ["_law_room"] ["_law_flow_here","_law_machine_here","_law_way","_law_letters_here","_law_begin","_law_ends","_law_steps","_law_other","_law_at","_law_some_here","_law_row"] [7,8]).Nodup:=by decide +kernel
theorem nd_first_like_0:(inNm ["number","row"] ["rows","firsts"] [1]).Nodup:=by decide +kernel
structure Blt (mg:Str→Option Value):Prop where
 enumerate:mg "enumerate" = none
 int:mg "int" = none
 len:mg "len" = none
 list:mg "list" = none
 range:mg "range" = none
 set:mg "set" = none
 sorted:mg "sorted" = none
 tuple:mg "tuple" = none
section
variable {P:Program} {w:World} {K:PySem.W.Frag} {mg:Str→Option Value} {base:Heap}
theorem rd_ix {K:PySem.W.Frag} {σ:L2.St} {H:Hp} {Q:VK} {p:Addr} {xs:List V} {i:Int} {v:V} {j:Nat} (h0:σ[j]? = some (some (.ref p))) (hp:H p=some (.lst xs)) (hv:atI xs i=some v) (q:Q v H):tOp (rIxL K) (tVar j) (tC (.int i)) σ H Q:=
 ⟨_,h0,p,xs,i,v,rfl,rfl,SqL.of hp,hv,q⟩
theorem ok_law_flow {f:Addr} {fd:FuncData} (F:Fun K "_law_flow" "_law_flow" s_law_flow f fd) (Z:Blt mg):FnOk P w K mg base CX0 1 f fd ["_law_script"] (spFlow K):=by
 refine F.ok sc_law_flow (fun vs H Q E h=>?_) (fun cdv A outer s H vs Q E hr h=>?_)
 ·obtain ⟨a,ns,rfl,_⟩:=h
  rfl
 obtain ⟨a,ns,rfl,hS,k⟩:=h
 refine ⟨_,(pss_one (ps_ret (pe_lst (pa_cons (pe_callTy (call_listK (K:=K)) (by rfl) Z.list bt_list (pa_cons (pv 0) pa_nil)) (pa_cons pe_int (pa_cons pe_int (pa_cons pe_int (pa_cons pe_int pa_nil)))))))),?_⟩
 refine ⟨_,rfl,a,_,rfl,.inl hS,fun l hl=>?_⟩
 refine ⟨(by show 5≤sizeLine; decide),fun p hp=>?_⟩
 have e1:Same H (upd H l (.lst (ns.map V.int))):=same_new hl _
 refine k p l _ (e1.free hp) (e1.trans (same_new hp _)) ⟨⟨_,upd_same,0,0,1,0,rfl,by decide,by decide,by decide,by decide,by decide⟩,ns,?_⟩
 rw [upd_ne (ne_of_none upd_same hp)]
 exact upd_same
theorem pick_last (c:Int) (m:Int) (hm:0 < m):0≤c % m∧c % m < m:=⟨Int.emod_nonneg _ (by omega),Int.emod_lt_of_pos _ hm⟩
theorem atI_ints {ns:List Int} {a:Int} (h0:0≤a) (h1:a < ((ns.map V.int).length:Int)):∃ z,atI (ns.map V.int) a=some (.int z):=by
 have hk:a.toNat < ns.length:=by
  rw [List.length_map] at h1
  omega
 have q:atI (ns.map V.int) ((a.toNat:Nat):Int)=some (.int ns[a.toNat]):=atI_nat (by rw [List.getElem?_map,List.getElem?_eq_getElem hk]; rfl)
 rw [show ((a.toNat:Nat):Int)=a by omega] at q
 exact ⟨_,q⟩
theorem ok_law_pick {f:Addr} {fd:FuncData} (F:Fun K "_law_pick" "_law_pick" s_law_pick f fd) (Z:Blt mg):FnOk P w K mg base CX0 1 f fd ["_law_flow_here","_law_many"] spPick:=by
 refine F.ok sc_law_pick (fun vs H Q E h=>?_) (fun cdv A outer s H vs Q E hr h=>?_)
 ·obtain ⟨p,sc,m,rfl,_⟩:=h
  rfl
 obtain ⟨p,sc,m,rfl,hm0,hm1,FA,k⟩:=h
 obtain ⟨xs,hp,a,b,c,d,rfl,ha,hb,hc0,hc1,hd⟩:=FA.here
 obtain ⟨ns,hs⟩:=FA.cells
 refine ⟨_,(pss_cut (ps_if (PW.pt (pw_and (pt_cmpR op_eq (pe_ix (ix_listK (K:=K)) (pv 0) pe_int (fun _ _=>rfl)) pe_int (nomark _)) (pw_and1 (pt_cmpR op_lt (pe_ix (ix_listK (K:=K)) (pv 0) pe_int (fun _ _=>rfl)) (pe_callB (call_lenK (K:=K)) (by rfl) Z.len bt_len (pa_cons (pe_ix (ix_listK (K:=K)) (pv 0) pe_int (fun _ _=>rfl)) pa_nil)) (nomark _))))) 
    (pss_cons (ps_set (i:=2) sc_law_pick.nd (by rfl) (Or.inl (by rfl)) (pe_ix (ix_listK (K:=K)) (pe_ix (ix_listK (K:=K)) (pv 0) pe_int (fun _ _=>rfl)) (pe_ix (ix_listK (K:=K)) (pv 0) pe_int (fun _ _=>rfl)) (fun _ _=>rfl))) 
    (pss_cons (ps_asg (pe_op op_add (pe_ix (ix_listK (K:=K)) (pv 0) pe_int (fun _ _=>rfl)) pe_int) (pg_sub (pv 0) pe_int set_list)) 
    (pss_one (ps_if (pt_cmpR op_ge (pv 2) (pe_op op_pow pe_int pe_int) (nomark _)) 
     (pss_one (ps_asg (pv 2) (pg_sub (pv 0) pe_int set_list))) 
     (pss_one (ps_asg (pe_op op_mod (pe_op op_add (pe_op op_add (pe_op op_mul (pe_ix (ix_listK (K:=K)) (pv 0) pe_int (fun _ _=>rfl)) pe_int) (pe_op op_mod (pv 2) pe_int)) pe_int) pe_int) (pg_sub (pv 0) pe_int set_list))))))) pss_nil) 
   (pss_cons (ps_if (pt_cmpR op_gt (pe_ix (ix_listK (K:=K)) (pv 0) pe_int (fun _ _=>rfl)) pe_int (nomark _)) 
    (pss_cons (ps_set (i:=3) sc_law_pick.nd (by rfl) (Or.inl (by rfl)) (pe_op op_mod (pe_ix (ix_listK (K:=K)) (pv 0) pe_int (fun _ _=>rfl)) (pv 1))) 
    (pss_cons (ps_asg (pe_op op_fdiv (pe_ix (ix_listK (K:=K)) (pv 0) pe_int (fun _ _=>rfl)) (pv 1)) (pg_sub (pv 0) pe_int set_list)) 
    (pss_one (ps_ret (pv 3))))) pss_nil) 
   (pss_cons (ps_asg (pe_op op_add (pe_ix (ix_listK (K:=K)) (pv 0) pe_int (fun _ _=>rfl)) pe_int) (pg_sub (pv 0) pe_int set_list)) 
   (pss_cons (ps_asg (pe_op op_mod (pe_op op_add (pe_op op_add (pe_op op_mul (pe_ix (ix_listK (K:=K)) (pv 0) pe_int (fun _ _=>rfl)) pe_int) pe_int) (pe_ix (ix_listK (K:=K)) (pv 0) pe_int (fun _ _=>rfl))) pe_int) (pg_sub (pv 0) pe_int set_list)) 
   (pss_one (ps_ret (pe_op op_mod (pe_op op_fdiv (pe_op op_mod (pe_op op_mul (pe_op op_add (pe_op op_mod (pe_ix (ix_listK (K:=K)) (pv 0) pe_int (fun _ _=>rfl)) pe_int) pe_int) (pe_op op_add (pe_op op_fdiv (pe_ix (ix_listK (K:=K)) (pv 0) pe_int (fun _ _=>rfl)) pe_int) pe_int)) pe_int) pe_int) (pv 1)))))))),?_⟩
 refine (let zz0:TS:=_; let zz1:TS:=tSeq _ zz0; let zz2:TS:=tSeq _ zz1; let zz3:TS:=_; let zz4:TS:=tSeq _ zz3; let zz5:TS:=tSeq _ zz4; let zz6:TS:=tSeq (tIfS _ zz5 _) zz2; let zz7:TS:=_; let zz8:TS:=tSeq _ zz7; let zz9:TS:=tSeq _ zz8; (?_:tCut (tIfS _ zz9 _) zz6 _ _ _))
 refine ⟨fun σ' H'=>∃ cv xs',σ'=[some (V.ref p),some (V.int m),cv,none]∧H' p=some (.lst xs')∧(∀ o,upd H' p o=upd H p o)∧FlowXs sc xs',?_,?_⟩
 ·have stay:∃ cv xs',[some (V.ref p),some (V.int m),none,none]=[some (V.ref p),some (V.int m),cv,none]∧H p=some (.lst xs')∧(∀ o,upd H p o=upd H p o)∧FlowXs sc xs':=⟨_,_,rfl,hp,fun _=>rfl,a,b,c,d,rfl,ha,hb,hc0,hc1,hd⟩
  refine rd_ix rfl hp (atI_nat (j:=2) rfl) ?_
  refine ⟨rfl,_,rfl,?_⟩
  refine ite2 (fun _=>?_) (fun _=>stay)
  refine rd_ix rfl hp (atI_nat (j:=1) rfl) ?_
  refine rd_ix rfl hp (atI_nat (j:=0) rfl) ?_
  refine ⟨sc,_,rfl,.inl (SqL.of hs),_,_,rfl,rfl,_,rfl,?_⟩
  refine ite2 (fun lt=>?_) (fun _=>stay)
  obtain ⟨z,hz⟩:=atI_ints (ns:=ns) ha (of_decide_eq_true lt)
  refine rd_ix rfl hp (atI_nat (j:=0) rfl) ?_
  refine rd_ix rfl hp (atI_nat (j:=1) rfl) ?_
  refine ⟨sc,_,_,_,rfl,rfl,SqL.of hs,hz,?_⟩
  refine rd_ix rfl hp (atI_nat (j:=1) rfl) ?_
  refine ⟨_,_,rfl,rfl,_,rfl,p,_,_,1,rfl,rfl,hp,rfl,?_⟩
  have hp1:upd H p (.lst [.ref sc,.int (a+1),.int b,.int c,.int d]) p=some (.lst [.ref sc,.int (a+1),.int b,.int c,.int d]):=upd_same
  refine ⟨_,rfl,_,_,rfl,rfl,⟨by decide,by decide,by decide⟩,_,_,rfl,rfl,_,rfl,?_⟩
  refine ite2 (fun big=>?_) (fun _=>?_)
  ·have big':(10:Int) ^ 18≤z:=of_decide_eq_true big
   refine ⟨_,rfl,_,rfl,p,_,_,2,rfl,rfl,hp1,rfl,?_⟩
   exact ⟨_,_,rfl,upd_same,fun o=>by rw [upd_upd,upd_upd],a+1,z,c,d,rfl,by omega,by omega,hc0,hc1,hd⟩
  ·refine rd_ix rfl hp1 (atI_nat (j:=3) rfl) ?_
   refine ⟨_,_,rfl,rfl,.inl ⟨by omega,by omega⟩,?_⟩
   refine ⟨_,rfl,_,_,rfl,rfl,(by show (0:Int) < 1000003; decide),_,_,rfl,rfl,_,_,rfl,rfl,_,_,rfl,rfl,(by show (0:Int) < 2147483647; decide),?_⟩
   refine ⟨_,rfl,p,_,_,3,rfl,rfl,hp1,rfl,?_⟩
   have q:=pick_last (c * 40013+z % 1000003+1) 2147483647 (by decide)
   exact ⟨_,_,rfl,upd_same,fun o=>by rw [upd_upd,upd_upd],a+1,b,_,d,rfl,by omega,hb,q.1,q.2,hd⟩
 ·rintro σ' H' ⟨cv,xs',rfl,hp',hu,a',b',c',d',rfl,ha',hb',hc0',hc1',hd'⟩
  refine rd_ix rfl hp' (atI_nat (j:=2) rfl) ?_
  refine ⟨_,_,rfl,rfl,_,rfl,?_⟩
  refine ite2 (fun pos=>?_) (fun _=>?_)
  ·have pos':0 < b':=of_decide_eq_true pos
   refine rd_ix rfl hp' (atI_nat (j:=2) rfl) ?_
   refine ⟨_,rfl,_,_,rfl,rfl,hm0,?_⟩
   refine rd_ix rfl hp' (atI_nat (j:=2) rfl) ?_
   refine ⟨_,rfl,_,_,rfl,rfl,⟨hm0,hm1⟩,_,rfl,p,_,_,2,rfl,rfl,hp',rfl,?_⟩
   refine ⟨_,rfl,?_⟩
   have q:=pick_last b' m hm0
   have e:=k (b' % m) [.ref sc,.int a',.int (b' / m),.int c',.int d'] q.1 q.2 ⟨a',b' / m,c',d',rfl,ha',Int.ediv_nonneg hb' (by omega),hc0',hc1',hd'⟩
   rw [← hu] at e
   exact e
  ·refine rd_ix rfl hp' (atI_nat (j:=4) rfl) ?_
   refine ⟨_,_,rfl,rfl,_,rfl,p,_,_,4,rfl,rfl,hp',rfl,?_⟩
   have hp2:upd H' p (.lst [.ref sc,.int a',.int b',.int c',.int (d'+1)]) p=some (.lst [.ref sc,.int a',.int b',.int c',.int (d'+1)]):=upd_same
   refine rd_ix rfl hp2 (atI_nat (j:=3) rfl) ?_
   refine ⟨_,_,rfl,rfl,.inl ⟨by omega,by omega⟩,_,_,rfl,rfl,?_⟩
   refine rd_ix rfl hp2 (atI_nat (j:=4) rfl) ?_
   refine ⟨_,_,rfl,rfl,_,_,rfl,rfl,(by show (0:Int) < 2147483647; decide),?_⟩
   refine ⟨_,rfl,p,_,_,3,rfl,rfl,hp2,rfl,?_⟩
   have q:=pick_last (c' * 48271+12820163+(d'+1)) 2147483647 (by decide)
   have hp3:∀ H3:Hp,upd H3 p (.lst [.ref sc,.int a',.int b',.int ((c' * 48271+12820163+(d'+1)) % 2147483647),.int (d'+1)]) p=some (.lst [.ref sc,.int a',.int b',.int ((c' * 48271+12820163+(d'+1)) % 2147483647),.int (d'+1)]):=fun _=>upd_same
   refine rd_ix rfl (hp3 _) (atI_nat (j:=3) rfl) ?_
   refine ⟨_,_,rfl,rfl,(by show (0:Int) < 65521; decide),_,_,rfl,rfl,?_⟩
   refine rd_ix rfl (hp3 _) (atI_nat (j:=3) rfl) ?_
   have q2:=pick_last ((c' * 48271+12820163+(d'+1)) % 2147483647) 65521 (by decide)
   refine ⟨_,_,rfl,rfl,⟨by decide,by decide⟩,_,_,rfl,rfl,_,_,rfl,rfl,.inl ⟨by omega,by omega⟩,_,_,rfl,rfl,(by show (0:Int) < 1000003; decide),_,_,rfl,rfl,⟨by decide,by decide⟩,_,rfl,_,_,rfl,rfl,hm0,?_⟩
   have q3:=pick_last (((c' * 48271+12820163+(d'+1)) % 2147483647 % 65521+1) * ((c' * 48271+12820163+(d'+1)) % 2147483647 / 65521+7919) % 1000003 / 7) m hm0
   have e:=k _ [.ref sc,.int a',.int b',.int ((c' * 48271+12820163+(d'+1)) % 2147483647),.int (d'+1)] q3.1 q3.2 ⟨a',b',_,d'+1,rfl,ha',hb',q.1,q.2,by omega⟩
   rw [← hu,← upd_upd (H:=H') (o:=.lst [.ref sc,.int a',.int b',.int c',.int (d'+1)])] at e
   exact e
def one (c:Nat):Str:=⟨#[c]⟩
theorem strs_ones {ys':List Str} {cs:List Nat} (h:ys'.Perm (cs.map one)):∃ cs':List Nat,cs'.Perm cs∧ys'=cs'.map one:=by
 have e:∀ y∈ys',y=one (y.cps.toList.headD 0):=fun y hy=>by
  obtain ⟨c,_,rfl⟩:=List.mem_map.mp (h.mem_iff.mp hy)
  rfl
 have e2:ys'=(ys'.map fun y=>y.cps.toList.headD 0).map one:=by
  rw [List.map_map]
  have:∀ (l:List Str),(∀ y∈l,y=one (y.cps.toList.headD 0))→l=l.map (one ∘ fun y=>y.cps.toList.headD 0):=by
   intro l
   induction l with
   | nil=>intro _; rfl
   | cons y r ih=>
    intro hl
    rw [List.map_cons,← ih fun z hz=>hl z (List.mem_cons_of_mem _ hz)]
    exact congrArg (· :: r) (hl y List.mem_cons_self)
  exact this ys' e
 refine ⟨_,?_,e2⟩
 have p:=h.map fun y:Str=>y.cps.toList.headD 0
 rw [List.map_map] at p
 have:(fun y:Str=>y.cps.toList.headD 0) ∘ one=id:=rfl
 rw [this,List.map_id] at p
 exact p
theorem lt_cps_one (a b:Nat):ltCps (one a).cps.toList (one b).cps.toList=decide (a < b):=by
 rw [ltCps_eq]
 exact lt_one a b
theorem rising_ones:∀ (p:Nat) (cs:List Nat),risingS (one p) (cs.map one)=true→∀ c∈cs,p≤c
 | _,[],_,c,hc=>by cases hc
 | p,x :: r,h,c,hc=>by
  have h':(!ltCps (one x).cps.toList (one p).cps.toList && risingS (one x) (r.map one))=true:=h
  rw [Bool.and_eq_true,lt_cps_one] at h'
  have h1:p≤x:=by
   have:=h'.1
   simp at this
   exact this
  rcases List.mem_cons.mp hc with e | e
  ·subst e; exact h1
  ·exact Nat.le_trans h1 (rising_ones x r h'.2 c e)
theorem sorted_ones:∀ (cs:List Nat),sortedS (cs.map one)=true→cs.Pairwise (·≤·)
 | [],_=>.nil
 | p :: r,h=>by
  have h':risingS (one p) (r.map one)=true:=h
  refine List.Pairwise.cons (rising_ones p r h') (sorted_ones r ?_)
  cases r with
  | nil=>rfl
  | cons x r=>
   have h2:(!ltCps (one x).cps.toList (one p).cps.toList && risingS (one x) (r.map one))=true:=h'
   rw [Bool.and_eq_true] at h2
   exact h2.2
theorem lt_of_le_nodup:∀ {cs:List Nat},cs.Pairwise (·≤·)→cs.Nodup→cs.Pairwise (· < ·)
 | [],_,_=>.nil
 | p :: r,h,n=>by
  cases h with
  | cons h1 h2=>
   rw [List.nodup_cons] at n
   refine List.Pairwise.cons (fun c hc=>?_) (lt_of_le_nodup h2 n.2)
   have:=h1 c hc
   have:p≠c:=fun e=>n.1 (e▸hc)
   omega
theorem erase_perm {α:Type}:∀ {l:List α} {n:Nat} {v:α},l[n]? = some v→(v :: l.eraseIdx n).Perm l
 | [],n,v,h=>by simp at h
 | x :: r,0,v,h=>by
  have e:x=v:=by simpa using h
  subst e
  exact List.Perm.refl _
 | x :: r,n+1,v,h=>by
  have ih:=erase_perm (l:=r) (n:=n) (v:=v) (by simpa using h)
  rw [List.eraseIdx_cons_succ]
  exact (List.Perm.swap x v _).trans (List.Perm.cons x ih)
theorem erase_map {α β:Type} (f:α→β):∀ (l:List α) (i:Nat),(l.map f).eraseIdx i=(l.eraseIdx i).map f
 | [],_=>rfl
 | _ :: _,0=>rfl
 | x :: r,i+1=>by
  rw [List.map_cons,List.eraseIdx_cons_succ,List.eraseIdx_cons_succ,List.map_cons,erase_map f r i]
theorem flat_ones (cs:List Nat):((cs.map one).map fun y=>y.cps.toList).flatten=cs:=by
 induction cs with
 | nil=>rfl
 | cons c r ih=>rw [List.map_cons,List.map_cons,List.flatten_cons,ih]; rfl
theorem sum_ones (cs:List Nat):((cs.map one).map (·.length)).sum=cs.length:=by
 induction cs with
 | nil=>rfl
 | cons c r ih=>rw [List.map_cons,List.map_cons,List.sum_cons,ih,List.length_cons,Nat.add_comm]; rfl
def abc:List Nat:=(List.range 26).map (· + 97)
theorem abc_is:(Str.ofString "abcdefghijklmnopqrstuvwxyz").cps.toList=abc:=by decide +kernel
theorem abc_nodup:abc.Nodup:=by decide +kernel
theorem abc_mem {c:Nat} (h:c∈abc):97≤c∧c≤122:=by
 unfold abc at h
 obtain ⟨i,hi,rfl⟩:=List.mem_map.mp h
 have:=List.mem_range.mp hi
 omega
theorem oneS_map (cs:List Nat):cs.map oneS=(cs.map one).map V.str:=by
 rw [List.map_map]
 rfl
theorem ok_law_letters {f:Addr} {fd:FuncData} (F:Fun K "_law_letters" "_law_letters" s_law_letters f fd) (Z:Blt mg) (C_law_pick:Cal P w K mg base "_law_pick" 1 ["_law_flow_here","_law_many"] spPick) :
  FnOk P w K mg base CX0 2 f fd ["_law_flow_here","_law_many"] spLetters:=by
 refine F.ok sc_law_letters (fun vs H Q E h=>?_) (fun cdv A outer s H vs Q E hr h=>?_)
 ·obtain ⟨p,sc,m,rfl,_⟩:=h
  rfl
 obtain ⟨p,sc,m,rfl,hm0,hm1,FA,k⟩:=h
 refine ⟨_,(pss_cons (ps_set (i:=2) sc_law_letters.nd (by rfl) (Or.inr (by rfl)) (pe_callTy (call_list_text (by rfl)) (by rfl) Z.list bt_list (pa_cons pe_str pa_nil))) 
   (pss_one (ps_ret (pe_bmK (K:=K) PySem.F.plainAttrs_str PySem.F.slot_str_join PySem.F.type_str_join (mt_joinK (K:=K)) pe_str (pa_cons (pe_callB (call_sortK (K:=K)) (by rfl) Z.sorted bt_sorted (pa_cons (pe_comp (sc:=defScope s_law_letters) (Nm:=["_law_flow_here","_law_many","_law_left"]) (own:=["_law_k"]) (fr:=[0,2]) ⟨rfl,by decide +kernel,by decide +kernel,by decide +kernel,by decide +kernel⟩ (by rfl) (gfr_name (by decide)) (pi_range1 (by rfl) Z.range (pa_cons (pv 1) pa_nil)) (fun d=>(pg_name (i:=0) nd_law_letters_0 (by rfl) (Or.inl (by rfl)))) (fun d=>pts_nil) (fun d=>(pe_bmK (K:=K) PySem.F.plainAttrs_list PySem.F.slot_list_pop PySem.F.type_list_pop mt_popAt (pv 2) (pa_cons (pe_c C_law_pick (hr.mono (by decide)) (pa_cons (pv 1) (pa_cons (pe_callB (call_lenK (K:=K)) (by rfl) Z.len bt_len (pa_cons (pv 2) pa_nil)) pa_nil))) pa_nil)))) pa_nil)) pa_nil))))),?_⟩
 refine (let zz0:TS:=_; (?_:tSeq _ zz0 _ _ _))
 refine ⟨_,rfl,(by decide +kernel),fun l hl=>?_⟩
 have e1:Same H (upd H l (.lst ((Str.ofString "abcdefghijklmnopqrstuvwxyz").cps.toList.map oneS))):=same_new hl _
 have npl:p≠l:=by
  obtain ⟨xs,hp,_⟩:=FA.here
  exact ne_of_none hp hl
 refine ⟨rfl,_,rfl,_,rfl,by omega,by omega,?_⟩
 refine comp_range (lo:=0) (k:=m.toNat) (fun i acc H2=>∃ ys rem:List Nat,acc=ys.map oneS∧ys.length=i∧H2 l=some (.lst (rem.map oneS))∧(ys ++ rem).Perm abc∧FlowAt H2 p sc∧Drew H H2 p) (Nat.lt_of_le_of_lt (show m.toNat≤26 by omega) (by decide))
  ⟨[],abc,rfl,rfl,by rw [upd_same,abc_is],List.Perm.refl _,FA.same e1,Drew.same e1⟩ (fun i acc H2 ⟨ys,rem,e,hl',_⟩=>by rw [e,List.length_map,hl']; exact Nat.le_refl _) (fun i acc H2 hi hp=>?_) (fun acc H2 hp q hq=>?_)
 ·obtain ⟨ys,rem,rfl,hyl,hrem,hperm,FA2,dr⟩:=hp
  have hlen:ys.length+rem.length=26:=by
   have:=hperm.length_eq
   rw [List.length_append] at this
   exact this
  refine cyes ?_
  refine ⟨_,rfl,.inl ⟨rfl,_,SqL.of hrem⟩,_,rfl,_,rfl,l,_,rfl,.inl (SqL.of hrem),p,sc,_,rfl,?_,?_,FA2,fun r xs hr0 hr1 hxs=>?_⟩
  ·rw [List.length_map]; omega
  ·rw [List.length_map]; omega
  ·have hr1':r < (rem.length:Int):=by
    rw [List.length_map] at hr1
    exact hr1
   have hrn:r.toNat < rem.length:=by omega
   have hv:rem[r.toNat]? = some rem[r.toNat]:=List.getElem?_eq_getElem hrn
   have hl2:upd H2 p (.lst xs) l=some (.lst (rem.map oneS)):=by rw [upd_ne (Ne.symm npl)]; exact hrem
   refine ⟨l,_,r,r.toNat,oneS rem[r.toNat],rfl,rfl,hl2,by omega,by omega,?_,?_,?_⟩
   ·rw [List.length_map]
    exact seqIndex_of hr0 hr1'
   ·rw [List.getElem?_map,hv]
    rfl
   ·refine ⟨ys ++ [rem[r.toNat]],rem.eraseIdx r.toNat,by rw [List.map_append]; rfl,by rw [List.length_append,hyl]; rfl,?_,?_,?_,?_⟩
    ·rw [upd_same,erase_map]
    ·rw [List.append_assoc]
     exact (List.Perm.append_left ys (erase_perm hv)).trans hperm
    ·have FA3:=FA2.go hxs
     obtain ⟨xs',h1,h2⟩:=FA3.here
     obtain ⟨ns,h3⟩:=FA3.cells
     refine ⟨⟨xs',by rw [upd_ne npl]; exact h1,h2⟩,ns,?_⟩
     rw [upd_ne ?_]
     ·exact h3
     ·obtain ⟨ns0,h0⟩:=FA.cells
      exact ne_of_none h0 hl
    ·intro b o hb hne
     rw [upd_ne (ne_of_none hb hl),upd_ne hne]
     exact dr b o hb hne
 ·obtain ⟨ys,rem,rfl,hyl,hrem,hperm,FA2,dr⟩:=hp
  have hn:ys.Nodup:=(List.nodup_append.mp (hperm.nodup_iff.mpr abc_nodup)).1
  refine ⟨q,ys.map one,rfl,SqL.of (by rw [upd_same,oneS_map]),by rw [List.length_map]; omega,fun ys' l2 hp2 hs2 hl2=>?_⟩
  obtain ⟨cs,hc,rfl⟩:=strs_ones hp2
  have hclen:=hc.length_eq
  refine ⟨_,l2,cs.map one,rfl,rfl,SqL.of upd_same,?_,?_⟩
  ·rw [sum_ones,List.length_map]
   have:(Str.ofString "").length=0:=by decide +kernel
   rw [this]
   omega
  ·have e3:=join_nil_list (cs.map one)
   rw [flat_ones] at e3
   refine k _ _ ⟨?_,?_,fun c hcm=>?_⟩ ?_ ?_
   ·rw [e3]; omega
   ·rw [e3]
    exact lt_of_le_nodup (sorted_ones cs hs2) (hc.nodup_iff.mpr hn)
   ·rw [e3] at hcm
    exact abc_mem (hperm.mem_iff.mp (List.mem_append_left _ (hc.mem_iff.mp hcm)))
   ·exact dr.trans (Drew.trans (Drew.same (same_new hq _)) (Drew.same (same_new hl2 _)))
   ·exact (FA2.same (same_new hq _)).same (same_new hl2 _)
theorem drew_go {H0 H:Hp} {p:Addr} (d:Drew H0 H p) (o:HO):Drew H0 (upd H p o) p:=d.trans (Drew.upd o)
theorem atI_sign {l:Str} {r:Int} (h0:0≤r) (h1:r < (l.length:Int)):∃ c,c∈l.cps.toList∧atI l.cps.toList r=some c:=by
 have hk:r.toNat < l.cps.toList.length:=by
  have:l.cps.toList.length=l.length:=by simp [Str.length]
  omega
 refine ⟨l.cps.toList[r.toNat],List.getElem_mem hk,?_⟩
 have q:atI l.cps.toList ((r.toNat:Nat):Int)=some l.cps.toList[r.toNat]:=atI_nat (List.getElem?_eq_getElem hk)
 rw [show ((r.toNat:Nat):Int)=r by omega] at q
 exact q
def Drawn (H:Hp) (p sc:Addr) (l:Str) (i:Nat) (acc:List V) (H2:Hp):Prop:=∃ ys:List Nat,acc=ys.map oneS∧ys.length=i∧(∀ c∈ys,c∈l.cps.toList)∧FlowAt H2 p sc∧Drew H H2 p
theorem drawn_turn {H H2:Hp} {p sc:Addr} {l:Str} {i:Nat} {acc:List V} {σ:L2.St} {jl jf:Nat} (hl0:0 < l.length) (hl1:l.length≤1000) (hv1:σ[jl]? = some (some (.str l))) (hv2:σ[jf]? = some (some (.ref p))) (h:Drawn H p sc l i acc H2) :
  tOp rIxS (tVar jl) (tCall spPick [] E0 (tCons (tVar jf) (tCons (tCB (fun xs H Q=>∃ z,xs=[V.str z]∧z.length≤sizeLine∧Q (.int z.length) H) (tCons (tVar jl) tNil)) tNil))) σ H2 fun v H6=>Drawn H p sc l (i+1) (acc ++ [v]) H6:=by
 obtain ⟨ys,rfl,hyl,hyc,FA2,dr⟩:=h
 refine ⟨_,hv1,_,hv2,_,hv1,l,rfl,line_le hl1,p,sc,_,rfl,by omega,by omega,FA2,fun r xs h0 h1 hx=>?_⟩
 obtain ⟨c,hc,ha⟩:=atI_sign h0 h1
 exact ⟨l,r,c,rfl,rfl,line_le hl1,ha,ys ++ [c],by rw [List.map_append]; rfl,by rw [List.length_append,hyl]; rfl,fun c' h'=>(List.mem_append.mp h').elim (hyc c') fun z=>by rw [List.mem_singleton.mp z]; exact hc,FA2.go hx,drew_go dr _⟩
theorem drawn_len {H:Hp} {p sc:Addr} {l:Str}:∀ i acc H2,Drawn H p sc l i acc H2→acc.length≤i:=fun i acc H2 ⟨ys,e,hl',_⟩=>by rw [e,List.length_map,hl']; exact Nat.le_refl _
theorem rep_mem {z:List Nat} {n:Nat} {c:Nat} (h:c∈(List.replicate n z).flatten):c∈z:=by
 obtain ⟨l,hl,hc⟩:=List.mem_flatten.mp h
 rw [(List.mem_replicate.mp hl).2] at hc
 exact hc
theorem cut_le (z:Str) (n:Int) (h:0≤n):((Txt.slice z none (some n)).cps.toList.length:Int)≤n∧∀ c∈(Txt.slice z none (some n)).cps.toList,c∈z.cps.toList:=by
 rw [slice_list]
 constructor
 ·rw [List.length_take,List.length_drop]
  have e:HT.sIx z.length z.length (some n)=min n.toNat z.length:=by
   have:=HT.sIx_nat z.length z.length n.toNat
   rw [show ((n.toNat:Nat):Int)=n by omega] at this
   exact this
  rw [e]
  omega
 ·intro c hc
  exact List.mem_of_mem_drop (List.mem_of_mem_take hc)
theorem join_ones_len (ys:List Nat) (h:ys.length≤1000):((ys.map one).map (·.length)).sum+(ys.map one).length * (Str.ofString "").length≤16777216:=by
 have:(Str.ofString "").length=0:=by decide +kernel
 rw [sum_ones,this]
 omega
theorem join_ones (ys:List Nat):(Txt.join (Str.ofString "") (ys.map one)).cps.toList=ys:=by
 rw [join_nil_list,flat_ones]
theorem ok_law_word {f:Addr} {fd:FuncData} (F:Fun K "_law_word" "_law_word" s_law_word f fd) (Z:Blt mg) (C_law_pick:Cal P w K mg base "_law_pick" 1 ["_law_flow_here","_law_many"] spPick) :
  FnOk P w K mg base CX0 2 f fd ["_law_flow_here","_law_letters_here","_law_most"] spWord:=by
 refine F.ok sc_law_word (fun vs H Q E h=>?_) (fun cdv A outer s H vs Q E hr h=>?_)
 ·obtain ⟨p,sc,l,m,rfl,_⟩:=h
  rfl
 obtain ⟨p,sc,l,m,rfl,hl0,hl1,hm0,hm1,FA,k⟩:=h
 refine ⟨_,(pss_cons (ps_set (i:=3) sc_law_word.nd (by rfl) (Or.inl (by rfl)) (pe_cmpR op_eq (pe_c C_law_pick (hr.mono (by decide)) (pa_cons (pv 0) (pa_cons pe_int pa_nil))) pe_int (nomark _))) 
   (pss_cons (ps_set (i:=4) sc_law_word.nd (by rfl) (Or.inl (by rfl)) (pe_c C_law_pick (hr.mono (by decide)) (pa_cons (pv 0) (pa_cons (pe_op op_add (pv 2) pe_int) pa_nil)))) 
   (pss_cons (ps_if (pt_truthK (K:=K) (pv 3) (fun _=>rfl)) 
    (pss_cons (ps_set (i:=5) sc_law_word.nd (by rfl) (Or.inl (by rfl)) (pe_bmK (K:=K) PySem.F.plainAttrs_str PySem.F.slot_str_join PySem.F.type_str_join (mt_joinK (K:=K)) pe_str (pa_cons (pe_comp (sc:=defScope s_law_word) (Nm:=["_law_flow_here","_law_letters_here","_law_most","_law_again","_law_many","_law_piece"]) (own:=["_law_k"]) (fr:=[0,1]) ⟨rfl,by decide +kernel,by decide +kernel,by decide +kernel,by decide +kernel⟩ (by rfl) (gfr_name (by decide)) (pi_range1 (by rfl) Z.range (pa_cons (pe_op op_add pe_int (pe_c C_law_pick (hr.mono (by decide)) (pa_cons (pv 0) (pa_cons pe_int pa_nil)))) pa_nil)) (fun d=>(pg_name (i:=0) nd_law_word_0 (by rfl) (Or.inl (by rfl)))) (fun d=>pts_nil) (fun d=>(pe_ix ix_str (pv 2) (pe_c C_law_pick (hr.mono (by decide)) (pa_cons (pv 1) (pa_cons (pe_callB call_len_str (by rfl) Z.len bt_len (pa_cons (pv 2) pa_nil)) pa_nil))) (fun _ _=>rfl)))) pa_nil))) 
    (pss_one (ps_ret (pe_slice sl_str (pe_op op_mul_str (pv 5) (pv 4)) po_none (po_some (pv 4)))))) pss_nil) 
   (pss_one (ps_ret (pe_bmK (K:=K) PySem.F.plainAttrs_str PySem.F.slot_str_join PySem.F.type_str_join (mt_joinK (K:=K)) pe_str (pa_cons (pe_comp (sc:=defScope s_law_word) (Nm:=["_law_flow_here","_law_letters_here","_law_most","_law_again","_law_many","_law_piece"]) (own:=["_law_k"]) (fr:=[0,1]) ⟨rfl,by decide +kernel,by decide +kernel,by decide +kernel,by decide +kernel⟩ (by rfl) (gfr_name (by decide)) (pi_range1 (by rfl) Z.range (pa_cons (pv 4) pa_nil)) (fun d=>(pg_name (i:=0) nd_law_word_1 (by rfl) (Or.inl (by rfl)))) (fun d=>pts_nil) (fun d=>(pe_ix ix_str (pv 2) (pe_c C_law_pick (hr.mono (by decide)) (pa_cons (pv 1) (pa_cons (pe_callB call_len_str (by rfl) Z.len bt_len (pa_cons (pv 2) pa_nil)) pa_nil))) (fun _ _=>rfl)))) pa_nil))))))),?_⟩
 refine (let zz0:TS:=_; let zz1:TS:=_; let zz2:TS:=tSeq _ zz1; let zz3:TS:=tSeq (tIfS _ zz2 _) zz0; let zz4:TS:=tSeq _ zz3; (?_:tSeq _ zz4 _ _ _))
 refine ⟨_,rfl,p,sc,4,rfl,by decide,by decide,FA,fun r0 xs0 _ _ hx0=>⟨rfl,?_⟩⟩
 have FA0:=FA.go hx0
 have d0:Drew H (upd H p (.lst xs0)) p:=Drew.upd _
 refine ⟨_,rfl,_,rfl,_,_,rfl,rfl,p,sc,m+1,rfl,by omega,by omega,FA0,fun n xs1 hn0 hn1 hx1=>?_⟩
 have FA1:=FA0.go hx1
 have d1:Drew H (upd (upd H p (.lst xs0)) p (.lst xs1)) p:=drew_go d0 _
 refine ⟨_,rfl,_,rfl,?_⟩
 refine ite2 (fun _=>?_) (fun _=>?_)
 ·refine ⟨rfl,_,rfl,p,sc,3,rfl,by decide,by decide,FA1,fun r2 xs2 hr0 hr1 hx2=>⟨_,_,rfl,rfl,_,rfl,by omega,by omega,?_⟩⟩
  refine comp_range (lo:=0) (k:=(1+r2).toNat) (Drawn H p sc l) (Nat.lt_of_le_of_lt (show (1+r2).toNat≤3 by omega) (by decide)) ⟨[],rfl,rfl,fun c hc=>absurd hc (by simp),FA1.go hx2,drew_go d1 _⟩ drawn_len
   (fun i acc H2 hi hp=>cyes (drawn_turn hl0 hl1 rfl rfl hp)) (fun acc H2 hp q hq=>?_)
  obtain ⟨ys,rfl,hyl,hyc,FA2,dr⟩:=hp
  have hy3:ys.length≤3:=by omega
  refine ⟨_,q,ys.map one,rfl,rfl,SqL.of (by rw [upd_same,oneS_map]),join_ones_len ys (by omega),?_⟩
  have hj:=join_ones ys
  have hjl:(Txt.join (Str.ofString "") (ys.map one)).length=ys.length:=by
   have:(Txt.join (Str.ofString "") (ys.map one)).cps.toList.length=ys.length:=by rw [hj]
   simpa [Str.length] using this
  refine ⟨_,rfl,_,rfl,_,n,rfl,rfl,hn0,by omega,by omega,_,rfl,_,rfl,_,rfl,?_,?_⟩
  ·show ((List.replicate n.toNat _).flatten.toArray).size≤sizeLine
   rw [List.size_toArray,len_rep,Array.length_toList]
   have e:(Txt.join (Str.ofString "") (ys.map one)).cps.size=ys.length:=hjl
   rw [e]
   have:n.toNat * ys.length≤100 * 3:=Nat.mul_le_mul (by omega) hy3
   exact line_le (by omega)
  ·obtain ⟨c1,c2⟩:=cut_le (repS (Txt.join (Str.ofString "") (ys.map one)) n.toNat) n hn0
   refine k _ _ (by omega) (fun c hc=>?_) (dr.trans (Drew.same (same_new hq _))) (FA2.same (same_new hq _))
   have h1:=c2 c hc
   have h2:c∈(List.replicate n.toNat (Txt.join (Str.ofString "") (ys.map one)).cps.toList).flatten:=by simpa [repS] using h1
   have h3:=rep_mem h2
   rw [hj] at h3
   exact hyc c h3
 ·refine ⟨rfl,_,rfl,_,rfl,by omega,by omega,?_⟩
  refine comp_range (lo:=0) (k:=n.toNat) (Drawn H p sc l) (Nat.lt_of_le_of_lt (show n.toNat≤100 by omega) (by decide)) ⟨[],rfl,rfl,fun c hc=>absurd hc (by simp),FA1,d1⟩ drawn_len
   (fun i acc H2 hi hp=>cyes (drawn_turn hl0 hl1 rfl rfl hp)) (fun acc H2 hp q hq=>?_)
  obtain ⟨ys,rfl,hyl,hyc,FA2,dr⟩:=hp
  refine ⟨_,q,ys.map one,rfl,rfl,SqL.of (by rw [upd_same,oneS_map]),join_ones_len ys (by omega),?_⟩
  refine k _ _ ?_ (fun c hc=>?_) (dr.trans (Drew.same (same_new hq _))) (FA2.same (same_new hq _))
  ·rw [join_ones]; omega
  ·rw [join_ones] at hc
   exact hyc c hc
theorem len_list (z:Str):z.cps.toList.length=z.length:=by simp [Str.length]
theorem flat_nI (es:List Nat):(es.map fun n:Nat=>V.int (n:Int)).all flatV=true:=by
 induction es with
 | nil=>rfl
 | cons e r ih=>rw [List.map_cons,List.all_cons,ih]; rfl
def nI (n:Nat):V:=.int (n:Int)
structure MachAt (H:Hp) (m:Addr) (l:Str) (b:Nat) (es:List Nat) (st:List (List Nat)):Prop where
 lay:∃ (e s:Addr) (ras:List Addr),H m=some (.tup [.str l,nI b,.ref e,.ref s])∧H e=some (.tup (es.map nI))∧H s=some (.tup (ras.map V.ref))∧ras.length=st.length∧∀ (i:Nat) a r,ras[i]? = some a→st[i]? = some r→H a=some (.tup (r.map nI))
 few:0 < l.length∧l.length≤3∧st.length≤216
 beg:b < st.length
 rows:∀ r∈st,r.length=l.length∧∀ x∈r,x < st.length
theorem MachAt.same {H H':Hp} {m:Addr} {l:Str} {b:Nat} {es:List Nat} {st:List (List Nat)} (h:MachAt H m l b es st) (e:Same H H'):MachAt H' m l b es st:=by
 obtain ⟨⟨e1,s1,ras,h1,h2,h3,h4,h5⟩,f,g,r⟩:=h
 exact ⟨⟨e1,s1,ras,e _ _ h1,e _ _ h2,e _ _ h3,h4,fun i a r q1 q2=>e _ _ (h5 i a r q1 q2)⟩,f,g,r⟩
def stp (l:Str) (st:List (List Nat)) (r c:Nat):Nat:=(st.getD r []).getD (Txt.find l (one c)).toNat 0
def way (l:Str) (st:List (List Nat)) (r:Nat) (t:List Nat):Nat:=t.foldl (stp l st) r
theorem find_in {l:Str} {c:Nat} (h:c∈l.cps.toList):0≤Txt.find l (one c)∧(Txt.find l (one c)).toNat < l.length:=by
 have hl:=len_list l
 obtain ⟨i,hi,e⟩:=List.getElem_of_mem h
 have hD:∀ v:Nat,v < l.length→l.cps.getD v 0=l.cps.toList.getD v 0:=fun v hv=>by
  rw [List.getD_eq_getElem?_getD,Array.getElem?_toList,Array.getD_eq_getD_getElem?]
 have hf:Txt.find l (one c)=Txt.find3 l (one c) 0:=by
  unfold Txt.find Txt.find3
  rfl
 rcases StrLaws.find3_spec l c 0 with ⟨_,hn⟩ | ⟨k,hk,_,hlt,_⟩
 ·refine absurd ?_ (hn i ?_ (by omega))
  ·rw [hD i (by omega),List.getD_eq_getElem?_getD,List.getElem?_eq_getElem hi]
   exact e
  ·show _≤i
   unfold PySem.fromIndex
   simp
 ·rw [hf]
  have:Txt.find3 l (one c) 0=(k:Int):=hk
  rw [this]
  omega
theorem getD_mem {α:Type} {l:List α} {i:Nat} {d:α} (h:i < l.length):l.getD i d∈l∧l[i]? = some (l.getD i d):=by
 rw [List.getD_eq_getElem?_getD,List.getElem?_eq_getElem h]
 exact ⟨List.getElem_mem h,rfl⟩
theorem stp_lt {H:Hp} {m:Addr} {l:Str} {b:Nat} {es:List Nat} {st:List (List Nat)} (M:MachAt H m l b es st) {r c:Nat} (hr:r < st.length) (hc:c∈l.cps.toList):stp l st r c < st.length:=by
 obtain ⟨h1,h2⟩:=M.rows _ (getD_mem (d:=[]) hr).1
 have hf:=find_in hc
 exact h2 _ (getD_mem (l:=st.getD r []) (d:=0) (by rw [h1]; exact hf.2)).1
theorem way_lt {H:Hp} {m:Addr} {l:Str} {b:Nat} {es:List Nat} {st:List (List Nat)} (M:MachAt H m l b es st):∀ (t:List Nat) (r:Nat),r < st.length→(∀ c∈t,c∈l.cps.toList)→way l st r t < st.length
 | [],r,hr,_=>hr
 | c :: t,r,hr,h=>way_lt M t _ (stp_lt M hr (h c List.mem_cons_self)) fun x hx=>h x (List.mem_cons_of_mem _ hx)
inductive spRoomI (vs:List V) (H:Hp) (Q:VK):Prop
 | mk (m:Addr) (l:Str) (b:Nat) (es:List Nat) (st:List (List Nat)) (r:Nat) (t:Str) (h1:vs=[.ref m,nI r,.str t]) (h2:MachAt H m l b es st) (h3:r < st.length) (h4:(∀ c∈t.cps.toList,c∈l.cps.toList)) (h5:Q (nI (way l st r t.cps.toList)) H):spRoomI vs H Q
def spRoom:Sp:=fun vs H Q u3_=>spRoomI vs H Q
inductive spTakesI (vs:List V) (H:Hp) (Q:VK):Prop
 | mk (m:Addr) (l:Str) (b:Nat) (es:List Nat) (st:List (List Nat)) (t:Str) (h1:vs=[.ref m,.str t]) (h2:MachAt H m l b es st) (h3:(∀ c∈t.cps.toList,c∈l.cps.toList)) (h4:Q (.bl (inV (nI (way l st b t.cps.toList)) (es.map nI))) H):spTakesI vs H Q
def spTakes:Sp:=fun vs H Q u3_=>spTakesI vs H Q
theorem rd_step {K:PySem.W.Frag} {H:Hp} {m:Addr} {l:Str} {b:Nat} {es:List Nat} {st:List (List Nat)} (M:MachAt H m l b es st) {r c:Nat} (hr:r < st.length) (hc:c∈l.cps.toList) {Q:VK} (q:Q (nI (stp l st r c)) H) :
  ∃ (e s:Addr) (ras:List Addr) (a:Addr),H m=some (.tup [.str l,nI b,.ref e,.ref s])∧H s=some (.tup (ras.map V.ref))∧atI (ras.map V.ref) (r:Int)=some (.ref a)∧H a=some (.tup ((st.getD r []).map nI))∧0≤Txt.find l ⟨#[c]⟩∧atI ((st.getD r []).map nI) (Txt.find l ⟨#[c]⟩)=some (nI (stp l st r c)):=by
 obtain ⟨e,s,ras,h1,h2,h3,h4,h5⟩:=M.lay
 have hra:r < ras.length:=by omega
 have hf:=find_in hc
 obtain ⟨g1,g2⟩:=getD_mem (l:=st) (d:=[]) hr
 have hlen:=(M.rows _ g1).1
 have g3:=(getD_mem (l:=st.getD r []) (i:=(Txt.find l (one c)).toNat) (d:=0) (by rw [hlen]; exact hf.2)).2
 refine ⟨e,s,ras,ras[r],h1,h3,atI_nat (by rw [List.getElem?_map,List.getElem?_eq_getElem hra]; rfl),h5 r _ _ (List.getElem?_eq_getElem hra) g2,hf.1,?_⟩
 have z:atI ((st.getD r []).map nI) (((Txt.find l (one c)).toNat:Nat):Int)=some (nI (stp l st r c)):=atI_nat (by rw [List.getElem?_map,g3]; rfl)
 rw [show (((Txt.find l (one c)).toNat:Nat):Int)=Txt.find l (one c) by omega] at z
 exact z
theorem way_take (l:Str) (st:List (List Nat)) (r:Nat) (t:List Nat) (i c:Nat) (h:t[i]? = some c):way l st r (t.take (i+1))=stp l st (way l st r (t.take i)) c:=by
 rw [List.take_add_one,h]
 unfold way
 rw [List.foldl_append]
 rfl
theorem take_all {P:Nat→Prop} {t:List Nat} {n:Nat} (h:∀ c∈t,P c):∀ c∈t.take n,P c:=fun c hc=>h c (List.mem_of_mem_take hc)
theorem ok_room_behind {f:Addr} {fd:FuncData} (F:Fun K "room_behind" "room_behind" s_room_behind f fd) (Z:Blt mg):FnOk P w K mg base CX0 1 f fd ["machine","room","text"] spRoom:=by
 refine F.ok sc_room_behind (fun vs H Q E h=>?_) (fun cdv A outer s H vs Q E hr h=>?_)
 ·obtain ⟨m,l,b,es,st,r,t,rfl,_⟩:=h
  rfl
 obtain ⟨m,l,b,es,st,r,t,rfl,M,hr0,ht,k⟩:=h
 refine ⟨_,(pss_cons (ps_set (i:=3) sc_room_behind.nd (by rfl) (Or.inl (by rfl)) (pe_ix (ix_tupK (K:=K)) (pv 0) pe_int (fun _ _=>rfl))) 
   (pss_cons (ps_set (i:=4) sc_room_behind.nd (by rfl) (Or.inl (by rfl)) (pe_ix (ix_tupK (K:=K)) (pv 0) pe_int (fun _ _=>rfl))) 
   (pss_cons (ps_set (i:=5) sc_room_behind.nd (by rfl) (Or.inl (by rfl)) (pv 1)) 
   (pss_cons (ps_for PassesOwn.never (by rfl) (pi_str (pv 2)) (pg_name (i:=6) sc_room_behind.nd (by rfl) (Or.inl (by rfl))) 
    (pss_one (ps_set (i:=5) sc_room_behind.nd (by rfl) (Or.inl (by rfl)) (pe_ix (ix_tupK (K:=K)) (pe_ix (ix_tupK (K:=K)) (pv 4) (pv 5) (fun _ _=>rfl)) (pe_bmK (K:=K) PySem.F.plainAttrs_str PySem.F.slot_str_index PySem.F.type_str_index (mt_index (by rfl)) (pv 3) (pa_cons (pv 6) pa_nil)) (fun _ _=>rfl))))) 
   (pss_one (ps_ret (pv 5))))))),?_⟩
 refine (let zz0:TS:=_; let zz1:TS:=tSeq _ zz0; let zz2:TS:=tSeq _ zz1; let zz3:TS:=tSeq _ zz2; (?_:tSeq _ zz3 _ _ _))
 obtain ⟨e,s',ras,h1,h2,h3,h4,h5⟩:=M.lay
 refine ⟨_,rfl,m,_,_,_,rfl,rfl,SqT.of h1,atI_nat (j:=0) rfl,_,rfl,m,_,_,_,rfl,rfl,SqT.of h1,atI_nat (j:=3) rfl,_,rfl,?_⟩
 refine ⟨_,rfl,t,rfl,?_⟩
 refine for_str (cs:=t.cps.toList) (fun i σ H2=>∃ v,σ=[some (.ref m),some (nI r),some (.str t),some (.str l),some (.ref s'),some (nI (way l st r (t.cps.toList.take i))),v]∧H2=H) ⟨none,rfl,rfl⟩ ?_ ?_
 ·rintro i c σ H2 hc ⟨v,rfl,rfl⟩
  have hcl:c∈l.cps.toList:=ht c (List.mem_of_getElem? hc)
  have hw:=way_lt M (t.cps.toList.take i) r hr0 (take_all ht)
  obtain ⟨e2,s2,ras2,a,q1,q2,q3,q4,q5,q6⟩:=rd_step (K:=K) (Q:=fun _ _=>True) M hw hcl trivial
  rw [h1] at q1
  cases q1
  refine ⟨_,rfl,_,rfl,s',_,_,_,rfl,rfl,SqT.of q2,q3,_,rfl,rfl,_,rfl,l,_,rfl,rfl,q5,a,_,_,_,rfl,rfl,SqT.of q4,q6,?_⟩
  refine ⟨some (.str ⟨#[c]⟩),?_,rfl⟩
  rw [way_take l st r _ i c hc]
  rfl
 ·rintro σ H2 ⟨v,rfl,rfl⟩
  refine ⟨_,rfl,?_⟩
  rw [List.take_length]
  exact k
def Tk (H H':Hp):Prop:=∀ b ys,H b=some (.tup ys)→H' b=some (.tup ys)
theorem Tk.same {H H':Hp} (e:Same H H'):Tk H H':=fun b ys h=>e b _ h
theorem Tk.trans {H H1 H2:Hp} (a:Tk H H1) (b:Tk H1 H2):Tk H H2:=fun c ys h=>b c ys (a c ys h)
theorem Tk.lst {H:Hp} {l:Addr} {xs:List V} (h:H l=some (.lst xs)) (o:HO):Tk H (upd H l o):=fun b ys e=>by
 rw [upd_ne (ne_of e h fun z=>nomatch z)]
 exact e
theorem Tk.dct {H:Hp} {l:Addr} {xs:List (List Key × V)} (h:H l=some (.dT xs)) (o:HO):Tk H (upd H l o):=fun b ys e=>by
 rw [upd_ne (ne_of e h fun z=>nomatch z)]
 exact e
theorem map_take {α β:Type} {f:α→β} {l:List α} {i:Nat} {x:α} (h:l[i]? = some x):(l.take (i+1)).map f=(l.take i).map f ++ [f x]:=by
 rw [List.take_add_one,h,List.map_append]
 rfl
theorem none_of {H H':Hp} {p:Addr} (e:Same H H') (h:H' p=none):H p=none:=by
 cases z:H p with
 | none=>rfl
 | some o=>rw [e _ _ z] at h; cases h
theorem Tk.drew {H H':Hp} {p sc:Addr} (F:FlowAt H p sc) (d:Drew H H' p):Tk H H':=fun b ys h=>by
 obtain ⟨xs,hp,_⟩:=F.here
 exact d _ _ h (ne_of h hp fun z=>nomatch z)
section
variable {α:Type} {tv:α→List V}
end
theorem same_put {H H':Hp} {c:Addr} (e:Same H H') (h:H c=none) (o:HO):Same H (upd H' c o):=fun b u q=>by
 rw [upd_ne (ne_of_none q h)]
 exact e b u q
theorem cyes2 {K:PySem.W.Frag} {x x0 x1:V} {a:Addr} {σ:L2.St} {H:Hp} {te:TE} {Nt:VK} {Nf:Hp→Prop} (hx:x=.ref a) (hq:SqT K H a [x0,x1]) (h:te ((σ.set 0 (some x0)).set 1 (some x1)) H Nt) :
  gTup K 2 (gCons (gName 0) (gCons (gName 1) gNil)) x σ H fun σ4 H4=>tYes σ4 H4 fun b H5=>if b=true then te σ4 H5 Nt else Nf H5:=by
 refine ⟨a,_,hx,hq,rfl,_,_,rfl,_,_,rfl,rfl,?_⟩
 show if true=true then te ((σ.set 0 (some x0)).set 1 (some x1)) H Nt else Nf H
 exact iteT h
theorem idx_new {α:Type} [BEq α] [LawfulBEq α] {rs:List α} {i:Nat} {r:α} (h:rs[i]? = some r) (hn:r∉rs.take i):rs.idxOf r=i:=by
 have hi:i < rs.length:=(List.getElem?_eq_some_iff.mp h).1
 have e:rs=rs.take i ++ r :: rs.drop (i+1):=by
  obtain ⟨hm,e⟩:=List.getElem?_eq_some_iff.mp h
  rw [← e,← List.drop_eq_getElem_cons hm,List.take_append_drop]
 rw [e,List.idxOf_append,if_neg hn,List.idxOf_cons_self,List.length_take]
 omega
theorem mem_take_succ {α:Type} {rs:List α} {i:Nat} {r x:α} (h:rs[i]? = some r):x∈rs.take (i+1)↔x∈rs.take i∨x=r:=by
 rw [List.take_add_one,h,List.mem_append]
 simp
def kkN (r:List Nat):List Key:=r.map fun n:Nat=>Sum.inl (n:Int)
theorem kkN_map (r:List Nat):(kkN r).map kV=r.map nI:=by
 unfold kkN
 rw [List.map_map]
 rfl
theorem kkN_inj:∀ {r r':List Nat},kkN r=kkN r'→r=r'
 | [],[],_=>rfl
 | [],_ :: _,h=>by cases h
 | _ :: _,[],h=>by cases h
 | a :: r,b :: r',h=>by
  have h':(Sum.inl ((a:Nat):Int):Key) :: kkN r=Sum.inl ((b:Nat):Int) :: kkN r':=h
  injection h' with h1 h2
  have:((a:Nat):Int)=((b:Nat):Int):=Sum.inl.inj h1
  rw [kkN_inj h2,show a=b by omega]
def RowsN (H:Hp) (xs:List V) (rs:List (List Nat)):Prop:=xs.length=rs.length∧∀ (i:Nat) x r,xs[i]? = some x→rs[i]? = some r→∃ a,x=.ref a∧H a=some (.tup (r.map nI))
inductive spFLI (vs:List V) (H:Hp) (Q:VK):Prop
 | mk (rp:Addr) (h1:vs=[.ref rp]) (h2:((∃ bs:List Bool,H rp=some (.lst (bs.map V.bl))∧bs.length≤500∧∀ l H',H l=none→Same H H'→H' l=some (.lst (bs.map fun b=>nI (bs.idxOf b)))→Q (.ref l) H')∨(∃ xs rs,H rp=some (.lst xs)∧RowsN H xs rs∧rs.length≤500∧∀ l H',H l=none→Same H H'→H' l=some (.lst (rs.map fun r=>nI (rs.idxOf r)))→Q (.ref l) H'))):spFLI vs H Q
def spFL:Sp:=fun vs H Q u3_=>spFLI vs H Q
theorem ok_first_like {f:Addr} {fd:FuncData} (F:Fun K "first_like" "first_like" s_first_like f fd) (Z:Blt mg):FnOk P w K mg base CX0 1 f fd ["rows"] spFL:=by
 refine F.ok sc_first_like (fun vs H Q E h=>?_) (fun cdv A outer s H vs Q E hr h=>?_)
 ·obtain ⟨rp,rfl,_⟩:=h
  rfl
 obtain ⟨rp,rfl,⟨bs,hb,hbl,k⟩ | ⟨xs,rs,hx,hR,hrl,k⟩⟩:=h
 ·refine ⟨_,(pss_cons (ps_set (i:=1) sc_first_like.nd (by rfl) (Or.inr (by rfl)) (pe_dnewB (P:=P) (w:=w))) 
   (pss_one (ps_ret (pe_comp (sc:=defScope s_first_like) (Nm:=["rows","firsts"]) (own:=["number","row"]) (fr:=[1]) ⟨rfl,by decide +kernel,by decide +kernel,by decide +kernel,by decide +kernel⟩ (by rfl) (gfr_tup (gsfr_name (by decide) (gsfr_name (by decide) gsfr_nil))) (pi_enum (K:=K) (by rfl) Z.enumerate (pv 0)) (fun d=>(pg_tupK (K:=K) (n:=2) (by rfl) (pgs_cons (pg_name (i:=0) nd_first_like_0 (by rfl) (Or.inl (by rfl))) (pgs_cons (pg_name (i:=1) nd_first_like_0 (by rfl) (Or.inl (by rfl))) pgs_nil)))) (fun d=>pts_nil) (fun d=>(pe_dsetB (P:=P) (w:=w) (pv 2) (pv 1) (pv 0) ⟨rfl,rfl,rfl,rfl⟩)))))),?_⟩
  refine (let zz0:TS:=_; (?_:tSeq _ zz0 _ _ _))
  intro fp hfp
  have nf:rp≠fp:=ne_of_none hb hfp
  refine ⟨_,rfl,rp,_,rfl,.inl ⟨SqL.of ((upd_ne nf).trans hb),?_⟩⟩
  refine comp_enum (Sq:=fun H xs=>SqL K H rp xs) (xs:=bs.map V.bl) (fun i acc H2=>∃ (g:Bool→Option V) (n:Nat),acc=(bs.take i).map (fun b=>nI (bs.idxOf b))∧H2 fp=some (dicB P w fp g n)∧n≤i∧(∀ b,g b=if b∈bs.take i then some (nI (bs.idxOf b)) else none)∧Same H H2)
   (by rw [List.length_map]; exact small1000 (by omega)) ⟨fun _=>none,0,rfl,upd_same,Nat.le_refl _,fun b=>by simp,same_new hfp _⟩ (fun i acc H2 ⟨g,n,e,_⟩=>by rw [e,List.length_map,List.length_take]; exact Nat.min_le_left _ _)
   (fun i acc H2 ⟨g,n,e,_,_,_,e2⟩=>SqL.of (e2 _ _ hb)) (fun i acc H2 x p hxi h hp=>?_) (fun acc H2 h y hy=>?_)
  ·obtain ⟨g,n,rfl,h2,hn,hg,e2⟩:=h
   rw [List.getElem?_map] at hxi
   cases hbi:bs[i]? with
   | none=>rw [hbi] at hxi; cases hxi
   | some b=>
    rw [hbi] at hxi
    cases hxi
    have hil:i < bs.length:=(List.getElem?_eq_some_iff.mp hbi).1
    have s3:=same_new hp (.tup [V.int (i:Int),V.bl b])
    have h3:=s3 _ _ h2
    have hfp2:=e2.trans s3
    refine cyes2 (K:=K) rfl (SqT.of upd_same) ?_
    refine ⟨_,rfl,fp,g,n,rfl,h3,_,rfl,_,rfl,b,g,n,h3,rfl,by rw [sizeLine_eq]; omega,fun v hv=>?_,fun hv=>?_⟩
    ·rw [hg] at hv
     by_cases c:b∈bs.take i
     ·rw [if_pos c] at hv
      cases hv
      refine ⟨g,n,?_,h3,by omega,fun x=>?_,hfp2⟩
      ·rw [map_take hbi]
      ·rw [hg]
       by_cases c2:x∈bs.take i
       ·rw [if_pos c2,if_pos ((mem_take_succ hbi).mpr (.inl c2))]
       ·rw [if_neg c2,if_neg fun z=>c2 ((mem_take_succ hbi).mp z |>.elim id fun z=>z▸c)]
     ·rw [if_neg c] at hv
      cases hv
    ·rw [hg] at hv
     have c:b∉bs.take i:=fun c=>by rw [if_pos c] at hv; cases hv
     have hix:=idx_new hbi c
     refine ⟨_,n+1,?_,upd_same,by omega,fun x=>?_,same_put hfp2 hfp _⟩
     ·rw [map_take hbi,hix]
      rfl
     ·by_cases c2:x=b
      ·subst c2
       rw [if_pos rfl,if_pos ((mem_take_succ hbi).mpr (.inr rfl)),hix]
       rfl
      ·rw [if_neg c2,hg]
       by_cases c3:x∈bs.take i
       ·rw [if_pos c3,if_pos ((mem_take_succ hbi).mpr (.inl c3))]
       ·rw [if_neg c3,if_neg fun z=>((mem_take_succ hbi).mp z).elim c3 c2]
  ·obtain ⟨g,n,rfl,h2,hn,hg,e2⟩:=h
   rw [List.length_map,List.take_length]
   exact k y _ (none_of e2 hy) (e2.trans (same_new hy _)) upd_same
 ·refine ⟨_,(pss_cons (ps_set (i:=1) sc_first_like.nd (by rfl) (Or.inr (by rfl)) pe_dnewT) 
   (pss_one (ps_ret (pe_comp (sc:=defScope s_first_like) (Nm:=["rows","firsts"]) (own:=["number","row"]) (fr:=[1]) ⟨rfl,by decide +kernel,by decide +kernel,by decide +kernel,by decide +kernel⟩ (by rfl) (gfr_tup (gsfr_name (by decide) (gsfr_name (by decide) gsfr_nil))) (pi_enum (K:=K) (by rfl) Z.enumerate (pv 0)) (fun d=>(pg_tupK (K:=K) (n:=2) (by rfl) (pgs_cons (pg_name (i:=0) nd_first_like_0 (by rfl) (Or.inl (by rfl))) (pgs_cons (pg_name (i:=1) nd_first_like_0 (by rfl) (Or.inl (by rfl))) pgs_nil)))) (fun d=>pts_nil) (fun d=>(pe_dsetT (hu_of hr) (pv 2) (pv 1) (pv 0) ⟨rfl,rfl,rfl,rfl⟩)))))),?_⟩
  refine (let zz0:TS:=_; (?_:tSeq _ zz0 _ _ _))
  intro fp hfp
  have nf:rp≠fp:=ne_of_none hx hfp
  refine ⟨_,rfl,rp,_,rfl,.inl ⟨SqL.of ((upd_ne nf).trans hx),?_⟩⟩
  refine comp_enum (Sq:=fun H xs=>SqL K H rp xs) (xs:=xs) (fun i acc H2=>∃ kvs:List (List Key × V),acc=(rs.take i).map (fun r=>nI (rs.idxOf r))∧H2 fp=some (.dT kvs)∧kvs.length≤i∧(∀ r,valV kvs (kkN r)=if r∈rs.take i then some (nI (rs.idxOf r)) else none)∧Same H H2)
   (small1000 (by have:=hR.1; omega)) ⟨[],rfl,upd_same,Nat.le_refl _,fun b=>by simp [valV_nil],same_new hfp _⟩ (fun i acc H2 ⟨kvs,e,_⟩=>by rw [e,List.length_map,List.length_take]; exact Nat.min_le_left _ _)
   (fun i acc H2 ⟨kvs,e,_,_,_,e2⟩=>SqL.of (e2 _ _ hx)) (fun i acc H2 x p hxi h hp=>?_) (fun acc H2 h y hy=>?_)
  ·obtain ⟨kvs,rfl,h2,hn,hg,e2⟩:=h
   have hil:i < rs.length:=by rw [← hR.1]; exact (List.getElem?_eq_some_iff.mp hxi).1
   have hbi:rs[i]? = some rs[i]:=List.getElem?_eq_getElem hil
   generalize rs[i]=b at hbi
   obtain ⟨a,rfl,ha⟩:=hR.2 i x b hxi hbi
   have s3:=same_new hp (.tup [V.int (i:Int),V.ref a])
   have h3:=s3 _ _ h2
   have hfp2:=e2.trans s3
   refine cyes2 (K:=K) rfl (SqT.of upd_same) ?_
   refine ⟨_,rfl,fp,rfl,.inr ⟨kvs,.inl h3⟩,_,rfl,_,rfl,kvs,kkN b,a,h3,rfl,by rw [kkN_map]; exact hfp2 _ _ ha,by rw [sizeLine_eq]; omega,fun v hv=>?_,fun hv=>?_⟩
   ·rw [hg] at hv
    by_cases c:b∈rs.take i
    ·rw [if_pos c] at hv
     cases hv
     refine ⟨kvs,?_,h3,by omega,fun x=>?_,hfp2⟩
     ·rw [map_take hbi]
     ·rw [hg]
      by_cases c2:x∈rs.take i
      ·rw [if_pos c2,if_pos ((mem_take_succ hbi).mpr (.inl c2))]
      ·rw [if_neg c2,if_neg fun z=>c2 ((mem_take_succ hbi).mp z |>.elim id fun z=>z▸c)]
    ·rw [if_neg c] at hv
     cases hv
   ·rw [hg] at hv
    have c:b∉rs.take i:=fun c=>by rw [if_pos c] at hv; cases hv
    have hix:=idx_new hbi c
    refine ⟨_,?_,upd_same,Nat.le_trans (length_putK _ _ _) (by omega),fun x=>?_,same_put hfp2 hfp _⟩
    ·rw [map_take hbi,hix]
     rfl
    ·rw [valV_put]
     by_cases c2:x=b
     ·subst c2
      rw [if_pos rfl,if_pos ((mem_take_succ hbi).mpr (.inr rfl)),hix]
      rfl
     ·rw [if_neg fun z=>c2 (kkN_inj z),hg]
      by_cases c3:x∈rs.take i
      ·rw [if_pos c3,if_pos ((mem_take_succ hbi).mpr (.inl c3))]
      ·rw [if_neg c3,if_neg fun z=>((mem_take_succ hbi).mp z).elim c3 c2]
  ·obtain ⟨kvs,rfl,h2,hn,hg,e2⟩:=h
   rw [hR.1,List.take_length]
   exact k y _ (none_of e2 hy) (e2.trans (same_new hy _)) upd_same
def lk0 (es:List Nat) (n:Nat):List Nat:=let bs:=(List.range n).map fun r=>decide (r∈es); bs.map fun b=>bs.idxOf b
def lkR (st:List (List Nat)) (L:List Nat):List (List Nat):=(List.range st.length).map fun i=>L.getD i 0 :: (st.getD i []).map fun x=>L.getD x 0
def lkS (st:List (List Nat)) (L:List Nat):List Nat:=(lkR st L).map fun r=>(lkR st L).idxOf r
def lkN (st:List (List Nat)) (es:List Nat):Nat→List Nat
 | 0=>lk0 es st.length
 | k+1=>lkS st (lkN st es k)
def dn (L:List Nat):Nat:=(metI (L.map fun n:Nat=>(n:Int))).length
theorem inV_nI (i:Nat) (es:List Nat):inV (V.int ((i:Nat):Int)) (es.map nI)=decide (i∈es):=by
 unfold inV
 rw [List.any_map,Bool.eq_iff_iff,List.any_eq_true,decide_eq_true_eq]
 constructor
 ·rintro ⟨x,hx,e⟩
  have:(((x:Nat):Int)==((i:Nat):Int))=true:=e
  have:=eq_of_beq this
  rw [show i=x by omega]
  exact hx
 ·intro h
  refine ⟨i,h,?_⟩
  show (((i:Nat):Int)==((i:Nat):Int))=true
  simp
theorem RowsN.keep {H H':Hp} {xs:List V} {rs:List (List Nat)} (h:RowsN H xs rs) (k:Tk H H'):RowsN H' xs rs:=⟨h.1,fun i x r a b=>let ⟨c,e,q⟩:=h.2 i x r a b; ⟨c,e,k _ _ q⟩⟩
theorem RowsN.snoc {H:Hp} {xs:List V} {rs:List (List Nat)} (h:RowsN H xs rs) {a:Addr} {r:List Nat} (ha:H a=some (.tup (r.map nI))):RowsN H (xs ++ [.ref a]) (rs ++ [r]):=by
 refine ⟨by rw [List.length_append,List.length_append,h.1]; rfl,fun i x r' q1 q2=>?_⟩
 by_cases c:i < xs.length
 ·rw [List.getElem?_append_left c] at q1
  rw [List.getElem?_append_left (by rw [← h.1]; exact c)] at q2
  exact h.2 i x r' q1 q2
 ·rw [List.getElem?_append_right (by omega)] at q1
  rw [List.getElem?_append_right (by rw [← h.1]; omega),← h.1] at q2
  cases hi:i - xs.length with
  | zero=>
   rw [hi] at q1 q2
   cases q1
   cases q2
   exact ⟨a,rfl,ha⟩
  | succ n=>rw [hi] at q1; simp at q1
inductive spLikeI (vs:List V) (H:Hp) (Q:VK):Prop
 | mk (m:Addr) (l:Str) (b:Nat) (es:List Nat) (st:List (List Nat)) (h1:vs=[.ref m]) (h2:MachAt H m l b es st) (h3:es.length≤500) (h4:∀ lp k H',Same H H'→H' lp=some (.lst ((lkN st es (k+1)).map nI))→dn (lkN st es (k+1))≤dn (lkN st es k)→Q (.ref lp) H'):spLikeI vs H Q
def spLike:Sp:=fun vs H Q u3_=>spLikeI vs H Q
def lrW (m sA:Addr) (st:List (List Nat)) (es:List Nat) (H:Hp) (mm:Nat) (σ:L2.St) (H5:Hp):Prop:=∃ (k cnt:Nat) (lp:Addr) (v4 v5 v6:Option V),mm=st.length+1 - cnt∧σ=[some (.ref m),some (.ref sA),some (.ref lp),some (nI cnt),v4,v5,v6]∧H5 lp=some (.lst ((lkN st es k).map nI))∧Same H H5∧((k=0∧cnt=0)∨∃ j,k=j+1∧cnt=dn (lkN st es j))
def lrE (m sA lp rp:Addr) (st:List (List Nat)) (es:List Nat) (k':Nat) (H:Hp) (i:Nat) (σ:L2.St) (H7:Hp):Prop:=∃ (ys:List V) (v5 v6:Option V),σ=[some (.ref m),some (.ref sA),some (.ref lp),some (nI (dn (lkN st es k'))),some (.ref rp),v5,v6]∧H7 rp=some (.lst ys)∧RowsN H7 ys ((lkR st (lkN st es k')).take i)∧Same H H7∧H7 lp=some (.lst ((lkN st es k').map nI))
theorem ok_like_rooms {f:Addr} {fd:FuncData} (F:Fun K "like_rooms" "like_rooms" s_like_rooms f fd) (Z:Blt mg) (C_first_like:Cal P w K mg base "first_like" 1 ["rows"] spFL):FnOk P w K mg base CX0 2 f fd ["machine"] spLike:=by
 refine F.ok sc_like_rooms (fun vs H Q E h=>?_) (fun cdv A outer s H vs Q E hr h=>?_)
 ·obtain ⟨m,l,b,es,st,rfl,_⟩:=h
  rfl
 obtain ⟨m,l,b,es,st,rfl,M,hes,k⟩:=h
 refine ⟨_,(pss_cons (ps_set (i:=1) sc_like_rooms.nd (by rfl) (Or.inl (by rfl)) (pe_ix (ix_tupK (K:=K)) (pv 0) pe_int (fun _ _=>rfl))) 
   (pss_cons (ps_set (i:=2) sc_like_rooms.nd (by rfl) (Or.inr (by rfl)) (pe_c C_first_like (hr.mono (by decide)) (pa_cons (pe_comp (sc:=defScope s_like_rooms) (Nm:=["machine","steps","likes","count","rows","room","row"]) (own:=["room"]) (fr:=[0]) ⟨rfl,by decide +kernel,by decide +kernel,by decide +kernel,by decide +kernel⟩ (by rfl) (gfr_name (by decide)) (pi_range1 (by rfl) Z.range (pa_cons (pe_callB (call_lenK (K:=K)) (by rfl) Z.len bt_len (pa_cons (pv 1) pa_nil)) pa_nil)) (fun d=>(pg_name (i:=0) nd_like_rooms_0 (by rfl) (Or.inl (by rfl)))) (fun d=>pts_nil) (fun d=>(pe_cmpR (op_inK (K:=K)) (pv 0) (pe_ix (ix_tupK (K:=K)) (pv 1) pe_int (fun _ _=>rfl)) (by with_unfolding_all rfl)))) pa_nil))) 
   (pss_cons (ps_set (i:=3) sc_like_rooms.nd (by rfl) (Or.inl (by rfl)) pe_int) 
   (pss_cons (ps_while PassesOwn.never (pt_cmpR op_gt (pe_callB call_lenSet (by rfl) Z.len bt_len (pa_cons (pe_callTy (call_setI (K:=K) (by rfl)) (by rfl) Z.set bt_set (pa_cons (pv 2) pa_nil)) pa_nil)) (pv 3) (nomark _)) 
    (pss_cons (ps_set (i:=3) sc_like_rooms.nd (by rfl) (Or.inl (by rfl)) (pe_callB call_lenSet (by rfl) Z.len bt_len (pa_cons (pe_callTy (call_setI (K:=K) (by rfl)) (by rfl) Z.set bt_set (pa_cons (pv 2) pa_nil)) pa_nil))) 
    (pss_cons (ps_set (i:=4) sc_like_rooms.nd (by rfl) (Or.inl (by rfl)) (pe_lst pa_nil)) 
    (pss_cons (ps_for PassesOwn.never (by rfl) (pi_enum (K:=K) (by rfl) Z.enumerate (pv 1)) (pg_tupK (K:=K) (n:=2) (by rfl) (pgs_cons (pg_name (i:=5) sc_like_rooms.nd (by rfl) (Or.inl (by rfl))) (pgs_cons (pg_name (i:=6) sc_like_rooms.nd (by rfl) (Or.inl (by rfl))) pgs_nil))) 
     (pss_one (ps_expr (pe_bmK (K:=K) PySem.F.plainAttrs_list PySem.F.slot_list_append PySem.F.type_list_append mt_append (pv 4) (pa_cons (pe_callTy (call_tupK (K:=K)) (by rfl) Z.tuple bt_tuple (pa_cons (pe_op op_cat (pe_lst (pa_cons (pe_ix (ix_listK (K:=K)) (pv 2) (pv 5) (fun _ _=>rfl)) pa_nil)) (pe_comp (sc:=defScope s_like_rooms) (Nm:=["machine","steps","likes","count","rows","room","row"]) (own:=["ahead"]) (fr:=[2]) ⟨rfl,by decide +kernel,by decide +kernel,by decide +kernel,by decide +kernel⟩ (by rfl) (gfr_name (by decide)) (pi_tupK (K:=K) (pv 6)) (fun d=>(pg_name (i:=0) nd_like_rooms_1 (by rfl) (Or.inl (by rfl)))) (fun d=>pts_nil) (fun d=>(pe_ix (ix_listK (K:=K)) (pv 1) (pv 0) (fun _ _=>rfl))))) pa_nil)) pa_nil))))) 
    (pss_one (ps_set (i:=2) sc_like_rooms.nd (by rfl) (Or.inr (by rfl)) (pe_c C_first_like (hr.mono (by decide)) (pa_cons (pv 4) pa_nil)))))))) 
   (pss_one (ps_ret (pv 2))))))),?_⟩
 refine (let zz0:TS:=_; let zz1:TS:=_; let zz2:TS:=tSeq _ zz1; let zz3:TS:=tSeq _ zz2; let zz4:TS:=tSeq _ zz3; let zz5:TS:=tSeq (tWhile _ zz4) zz0; let zz6:TS:=tSeq _ zz5; let zz7:TS:=tSeq _ zz6; (?_:tSeq _ zz7 _ _ _))
 obtain ⟨eA,sA,ras,h1,h2,h3,h4,h5⟩:=M.lay
 have hst:=M.few.2.2
 have hbeg:=M.beg
 have hrl:(ras.map V.ref).length=st.length:=by rw [List.length_map,h4]
 refine ⟨_,rfl,m,_,_,_,rfl,rfl,SqT.of h1,atI_nat (j:=3) rfl,?_⟩
 refine ⟨_,rfl,sA,_,rfl,.inr (SqT.of h3),_,rfl,by omega,by omega,?_⟩
 refine comp_range (lo:=0) (k:=((((ras.map V.ref).length:Nat):Int)).toNat) (fun i acc H2=>acc=(List.range i).map (fun r=>V.bl (decide (r∈es)))∧Same H H2) (Nat.lt_of_le_of_lt (show _≤216 by omega) (by decide)) ⟨rfl,Same.refl _⟩
  (fun i acc H2 p=>by rw [p.1,List.length_map,List.length_range]; exact Nat.le_refl _) (fun i acc H2 hi p=>cyes ?_) (fun acc H2 p y hy=>?_)
 ·obtain ⟨rfl,e2⟩:=p
  refine ⟨_,rfl,_,rfl,m,_,_,_,rfl,rfl,SqT.of (e2 _ _ h1),atI_nat (j:=2) rfl,eA,_,rfl,.inr (SqT.of (e2 _ _ h2)),rfl,flat_nI es,?_,e2⟩
  rw [List.range_succ,List.map_append]
  have:inV (V.int (0+(i:Int))) (es.map nI)=decide (i∈es):=by
   rw [show (0:Int)+(i:Int)=((i:Nat):Int) by omega]
   exact inV_nI i es
  show _ ++ [V.bl (inV (V.int (0+(i:Int))) (es.map nI))]=_
  rw [this]
  rfl
 obtain ⟨rfl,e2⟩:=p
 have hk0:((((ras.map V.ref).length:Nat):Int)).toNat=st.length:=by omega
 rw [hk0]
 have hbs:(List.range st.length).map (fun r=>V.bl (decide (r∈es)))=((List.range st.length).map fun r=>decide (r∈es)).map V.bl:=by rw [List.map_map]; rfl
 have e3:=e2.trans (same_new hy (.lst ((List.range st.length).map fun r=>V.bl (decide (r∈es)))))
 refine ⟨y,rfl,.inl ⟨(List.range st.length).map fun r=>decide (r∈es),by rw [upd_same,hbs],by rw [List.length_map,List.length_range]; omega,fun lp H4 hlp e4 h4l=>?_⟩⟩
 have e04:=e3.trans e4
 have h4l':H4 lp=some (.lst ((lkN st es 0).map nI)):=by
  rw [h4l]
  refine congrArg (fun z=>some (HO.lst z)) ?_
  show _=List.map nI (List.map (fun b=>List.idxOf b (List.map (fun r=>decide (r∈es)) (List.range st.length))) (List.map (fun r=>decide (r∈es)) (List.range st.length)))
  rw [List.map_map (g:=nI)]
  rfl
 have lkl:∀ k,(lkN st es k).length=st.length:=fun k=>by
  cases k with
  | zero=>unfold lkN lk0; rw [List.length_map,List.length_map,List.length_range]
  | succ k=>unfold lkN lkS lkR; rw [List.length_map,List.length_map,List.length_range]
 have dnl:∀ k,dn (lkN st es k)≤st.length:=fun k=>by
  have:=firstMet_length_le (fun i=>((lkN st es k).map fun n:Nat=>(n:Int)).getD i 0) ((lkN st es k).map fun n:Nat=>(n:Int)).length
  rw [List.length_map,lkl] at this
  unfold dn metI
  rw [List.length_map,lkl]
  exact this
 have dn1:∀ k,0 < dn (lkN st es k):=fun k=>by
  have h:=firstMet_any (fun i=>((lkN st es k).map fun n:Nat=>(n:Int)).getD i 0) ((lkN st es k).map fun n:Nat=>(n:Int)).length (((lkN st es k).map fun n:Nat=>(n:Int)).getD 0 0)
  have hin:((List.range ((lkN st es k).map fun n:Nat=>(n:Int)).length).map fun i=>((lkN st es k).map fun n:Nat=>(n:Int)).getD i 0).any (· == ((lkN st es k).map fun n:Nat=>(n:Int)).getD 0 0)=true:=by
   rw [List.any_eq_true]
   exact ⟨_,List.mem_map.mpr ⟨0,List.mem_range.mpr (by rw [List.length_map,lkl]; omega),rfl⟩,by simp⟩
  rw [hin] at h
  unfold dn metI
  cases hc:firstMet (fun i=>((lkN st es k).map fun n:Nat=>(n:Int)).getD i 0) ((lkN st es k).map fun n:Nat=>(n:Int)).length with
  | nil=>rw [hc] at h; cases h
  | cons=>exact Nat.succ_pos _
 refine ⟨lrW m sA st es H,
  ⟨_,0,0,lp,none,none,none,rfl,rfl,h4l',e04,.inl ⟨rfl,rfl⟩⟩,?_⟩
 clear h4l h4l' hlp e4 e04 lp
 rintro mm σ H5 ⟨k',cnt,lp,v4,v5,v6,rfl,rfl,h5l,e5,hcnt⟩
 have hns:(lkN st es k').map nI=((lkN st es k').map fun n:Nat=>(n:Int)).map V.int:=by rw [List.map_map]; rfl
 have hset:((lkN st es k').map fun n:Nat=>(n:Int)).length+1 < scanBound:=by
  rw [List.length_map,lkl]
  exact Nat.lt_of_le_of_lt (show st.length+1≤217 by omega) (by decide)
 refine ⟨_,rfl,lp,_,rfl,SqL.of (by rw [← hns]; exact h5l),hset,fun q hq=>⟨q,_,_,rfl,upd_same,_,rfl,_,_,rfl,rfl,_,rfl,?_⟩⟩
 have s6:=same_new hq (.set (fun k=>(metI ((lkN st es k').map fun n:Nat=>(n:Int))).any (· == k)) (metI ((lkN st es k').map fun n:Nat=>(n:Int))).length)
 have h6l:=s6 _ _ h5l
 have e6:=e5.trans s6
 refine ite2 (fun c1=>?_) (fun c1=>?_)
 ·have c2:((cnt:Nat):Int) < ((dn (lkN st es k'):Nat):Int):=of_decide_eq_true c1
  refine ⟨fun σ' H'=>∃ m',m' < st.length+1 - cnt∧_,fun _ _ z=>z,?_⟩
  refine ⟨_,rfl,lp,_,rfl,SqL.of (by rw [← hns]; exact h6l),hset,fun q2 hq2=>⟨q2,_,_,rfl,upd_same,?_⟩⟩
  refine ⟨(by show 0≤sizeLine; decide),fun rp hrp=>?_⟩
  have s7:=same_new hq2 (.set (fun k=>(metI ((lkN st es k').map fun n:Nat=>(n:Int))).any (· == k)) (metI ((lkN st es k').map fun n:Nat=>(n:Int))).length)
  have s8:=same_new hrp (.lst [])
  have h8l:=s8 _ _ (s7 _ _ h6l)
  have e8:=(e6.trans s7).trans s8
  have hrp0:=none_of (e6.trans s7) hrp
  have nlr:lp≠rp:=ne_of_none (s7 _ _ h6l) hrp
  refine ⟨_,rfl,sA,ras.map V.ref,rfl,.inr ⟨SqT.of (e8 _ _ h3),?_⟩⟩
  refine for_enum (Sq:=fun H xs=>SqT K H sA xs) (xs:=ras.map V.ref) (lrE m sA lp rp st es k' H)
   ⟨[],v5,v6,rfl,upd_same,⟨rfl,fun i x r a=>by simp at a⟩,e8,h8l⟩ (fun i σ H7 _ h=>?_) ?_ ?_
  ·obtain ⟨ys,v5,v6,rfl,_,_,e7,_⟩:=h
   exact SqT.of (e7 _ _ h3)
  ·rintro i x σ H7 p hx ⟨ys,v5,v6,rfl,h7r,R7,e7,h7l⟩ hp
   rw [List.getElem?_map] at hx
   cases hai:ras[i]? with
   | none=>rw [hai] at hx; cases hx
   | some a=>
    rw [hai] at hx
    cases hx
    have hil:i < st.length:=by rw [← h4]; exact (List.getElem?_eq_some_iff.mp hai).1
    obtain ⟨hrm,hri⟩:=getD_mem (l:=st) (i:=i) (d:=[]) hil
    have hrr:st.getD i []=st.getD i []:=rfl
    generalize hr0:st.getD i []=r at hrm hri hrr
    have ha:=h5 i a r hai hri
    obtain ⟨hrlen,hrlt⟩:=M.rows r hrm
    have hll:=M.few.2.1
    have atL:∀ j,j < st.length→atI ((lkN st es k').map nI) ((j:Nat):Int)=some (nI ((lkN st es k').getD j 0)):=fun j hj=>atI_nat (by rw [List.getElem?_map,(getD_mem (l:=lkN st es k') (d:=0) (by rw [lkl]; exact hj)).2]; rfl)
    have s9:=same_new hp (.tup [V.int (i:Int),V.ref a])
    refine ⟨p,_,rfl,SqT.of upd_same,rfl,_,_,rfl,_,_,rfl,rfl,?_⟩
    have h9r:=s9 _ _ h7r
    have h9l:=s9 _ _ h7l
    have e9:=e7.trans s9
    have R9:=R7.keep (Tk.same s9)
    generalize upd H7 p (.tup [V.int (i:Int),V.ref a])=H9 at s9 h9r h9l e9 R9 ⊢
    refine ⟨_,rfl,.inl ⟨rfl,_,SqL.of h9r⟩,_,rfl,_,rfl,lp,_,_,_,rfl,rfl,SqL.of h9l,atL i hil,(by show 1≤sizeLine; decide),fun l1 hl1=>?_⟩
    have t1:=same_new hl1 (.lst [nI ((lkN st es k').getD i 0)])
    have h10l:=t1 _ _ h9l
    have h101:upd H9 l1 (.lst [nI ((lkN st es k').getD i 0)]) l1=some (.lst [nI ((lkN st es k').getD i 0)]):=upd_same
    generalize upd H9 l1 (.lst [nI ((lkN st es k').getD i 0)])=H10 at t1 h10l h101 ⊢
    have e10:=e9.trans t1
    refine ⟨_,rfl,a,rfl,⟨_,SqT.of (e10 _ _ ha)⟩,?_⟩
    refine comp_tup (K:=K) (a:=a) (xs:=r.map nI) (fun j acc H11=>acc=(r.take j).map (fun x=>nI ((lkN st es k').getD x 0))∧Same H10 H11) (by rw [List.length_map]; exact small1000 (by omega)) ⟨rfl,Same.refl _⟩ (fun j acc H11 q=>by rw [q.1,List.length_map,List.length_take]; exact Nat.min_le_left _ _)
     (fun j acc H11 q=>SqT.of (q.2 _ _ (e10 _ _ ha))) (fun j acc H11 x hxj q=>?_) (fun acc H11 q y hy=>?_)
    ·obtain ⟨rfl,e11⟩:=q
     rw [List.getElem?_map] at hxj
     cases hc:r[j]? with
     | none=>rw [hc] at hxj; cases hxj
     | some c=>
      rw [hc] at hxj
      cases hxj
      refine cyes ⟨_,rfl,_,rfl,lp,_,_,_,rfl,rfl,SqL.of (e11 _ _ h10l),atL c (hrlt c (List.mem_of_getElem? hc)),?_,e11⟩
      rw [map_take hc]
    obtain ⟨rfl,e11⟩:=q
    rw [List.length_map,List.take_length]
    have t2:=same_new hy (.lst (r.map fun x=>nI ((lkN st es k').getD x 0)))
    refine ⟨l1,y,_,_,rfl,rfl,t2 _ _ (e11 _ _ h101),upd_same,by rw [List.length_map]; exact line_le (by show 1+_≤1000; omega),fun c hc=>?_⟩
    have t3:=same_new hc (.lst ([nI ((lkN st es k').getD i 0)] ++ r.map fun x=>nI ((lkN st es k').getD x 0)))
    refine ⟨c,_,rfl,.inl ⟨SqL.of upd_same,fun z hz=>?_⟩⟩
    have t4:=same_new hz (.tup ([nI ((lkN st es k').getD i 0)] ++ r.map fun x=>nI ((lkN st es k').getD x 0)))
    have t04:=(((t1.trans e11).trans t2).trans t3).trans t4
    have hyl:ys.length≤216:=by
     rw [R9.1,List.length_take]
     unfold lkR
     rw [List.length_map,List.length_range]
     omega
    have hrow:(lkR st (lkN st es k'))[i]? = some ((lkN st es k').getD i 0 :: r.map fun x=>(lkN st es k').getD x 0):=by
     unfold lkR
     rw [List.getElem?_map,List.getElem?_range hil,← hr0]
     rfl
    refine ⟨rp,_,_,rfl,rfl,t04 _ _ h9r,small1000 (by omega),ys ++ [.ref z],_,_,rfl,upd_same,?_,same_put (e9.trans t04) hrp0 _,(upd_ne nlr).trans (t04 _ _ h9l)⟩
    rw [List.take_add_one,hrow]
    refine ((R9.keep (Tk.same t04)).keep (Tk.lst (t04 _ _ h9r) _)).snoc ?_
    rw [upd_ne (ne_of upd_same (t04 _ _ h9r) fun z=>nomatch z)]
    refine upd_same.trans ?_
    rw [List.map_cons,List.map_map]
    rfl
  ·rintro σ H7 ⟨ys,v5,v6,rfl,h7r,R7,e7,h7l⟩
   have hRl:(lkR st (lkN st es k')).length=st.length:=by unfold lkR; rw [List.length_map,List.length_range]
   rw [hrl,← hRl,List.take_length] at R7
   refine ⟨_,rfl,rp,rfl,.inr ⟨ys,_,h7r,R7,by omega,fun lp2 H9 hlp2 e9 h9=>?_⟩⟩
   have hdl:=dnl k'
   refine ⟨st.length+1 - dn (lkN st es k'),by omega,k'+1,dn (lkN st es k'),lp2,_,_,_,rfl,rfl,?_,e7.trans e9,.inr ⟨k',rfl,rfl⟩⟩
   rw [h9]
   refine congrArg (fun z=>some (HO.lst z)) ?_
   show _=List.map nI (List.map (fun r=>(lkR st (lkN st es k')).idxOf r) (lkR st (lkN st es k')))
   rw [List.map_map]
   rfl
 ·have c2:¬ ((cnt:Nat):Int) < ((dn (lkN st es k'):Nat):Int):=fun z=>c1 (decide_eq_true z)
  rcases hcnt with ⟨rfl,rfl⟩ | ⟨j,rfl,rfl⟩
  ·have:=dn1 0
   omega
  ·exact ⟨_,rfl,k lp j _ e6 h6l (by omega)⟩
def Canon {α:Type} [BEq α] (rs:List α) (L:List Nat):Prop:=L=rs.map fun r=>rs.idxOf r
theorem canon_at {α:Type} [BEq α] [LawfulBEq α] {rs:List α} {L:List Nat} (h:Canon rs L) {i:Nat} {r:α} (hi:rs[i]? = some r):L.getD i 0=rs.idxOf r:=by
 rw [h,List.getD_eq_getElem?_getD,List.getElem?_map,hi]
 rfl
theorem idx_at {α:Type} [BEq α] [LawfulBEq α] {rs:List α} {r:α} (h:r∈rs):rs[rs.idxOf r]? = some r:=by
 rw [List.getElem?_eq_getElem (List.idxOf_lt_length_of_mem h)]
 exact congrArg some (List.getElem_idxOf _)
theorem canon_eq {α:Type} [BEq α] [LawfulBEq α] {rs:List α} {L:List Nat} (h:Canon rs L) {i j:Nat} {r r':α} (hi:rs[i]? = some r) (hj:rs[j]? = some r'):L.getD i 0=L.getD j 0↔r=r':=by
 rw [canon_at h hi,canon_at h hj]
 refine ⟨fun e=>?_,fun e=>by rw [e]⟩
 have a:=idx_at (List.mem_of_getElem? hi)
 have b:=idx_at (List.mem_of_getElem? hj)
 rw [e,b] at a
 exact (Option.some.inj a).symm
structure Firsts (L:List Nat):Prop where
 le:∀ i,i < L.length→L.getD i 0≤i
 own:∀ i,i < L.length→L.getD (L.getD i 0) 0=L.getD i 0
 low:∀ i j,i < L.length→j < L.length→L.getD i 0=L.getD j 0→L.getD i 0≤j
theorem Canon.firsts {α:Type} [BEq α] [LawfulBEq α] {rs:List α} {L:List Nat} (h:Canon rs L):Firsts L:=by
 have hl:L.length=rs.length:=by rw [h,List.length_map]
 have at_:∀ i,i < L.length→∃ r,rs[i]? = some r:=fun i hi=>⟨rs[i]'(by omega),List.getElem?_eq_getElem (by omega)⟩
 have le:∀ i,i < L.length→L.getD i 0≤i:=fun i hi=>by
  obtain ⟨r,hr⟩:=at_ i hi
  rw [canon_at h hr]
  by_cases c:r∈rs.take i
  ·have e:rs.idxOf r=(rs.take i).idxOf r:=by
    conv=>lhs; rw [← List.take_append_drop i rs]
    rw [List.idxOf_append,if_pos c]
   have:=List.idxOf_lt_length_of_mem c
   rw [List.length_take] at this
   omega
  ·exact Nat.le_of_eq (idx_new hr c)
 refine ⟨le,fun i hi=>?_,fun i j hi hj e=>?_⟩
 ·obtain ⟨r,hr⟩:=at_ i hi
  have:=le i hi
  rw [canon_at h hr]
  exact canon_at h (idx_at (List.mem_of_getElem? hr))
 ·rw [e]
  exact le j hj
def cnt (L:List Nat):Nat→Nat
 | 0=>0
 | i+1=>cnt L i+if L.getD i 0=i then 1 else 0
theorem cnt_le {L L':List Nat}:∀ n,(∀ i,i < n→L.getD i 0=i→L'.getD i 0=i)→cnt L n≤cnt L' n
 | 0,_=>Nat.le_refl _
 | n+1,h=>by
  have ih:=cnt_le n fun i hi=>h i (by omega)
  unfold cnt
  by_cases c:L.getD n 0=n
  ·rw [if_pos c,if_pos (h n (Nat.lt_succ_self _) c)]
   omega
  ·rw [if_neg c]
   omega
theorem cnt_eq {L L':List Nat}:∀ n,(∀ i,i < n→L.getD i 0=i→L'.getD i 0=i)→cnt L' n≤cnt L n→∀ i,i < n→L'.getD i 0=i→L.getD i 0=i
 | 0,_,_,i,hi,_=>absurd hi (Nat.not_lt_zero _)
 | n+1,h,e,i,hi,q=>by
  have le:=cnt_le n fun i hi=>h i (by omega)
  unfold cnt at e
  by_cases c:L.getD n 0=n
  ·rw [if_pos c,if_pos (h n (Nat.lt_succ_self _) c)] at e
   rcases Nat.lt_or_ge i n with z | z
   ·exact cnt_eq n (fun i hi=>h i (by omega)) (by omega) i z q
   ·rw [show i=n by omega]
    exact c
  ·rw [if_neg c] at e
   rcases Nat.lt_or_ge i n with z | z
   ·exact cnt_eq n (fun i hi=>h i (by omega)) (by omega) i z q
   ·have hin:i=n:=by omega
    subst hin
    rw [if_pos q] at e
    omega
theorem dn_cnt {L:List Nat} (F:Firsts L):dn L=cnt L L.length:=by
 have key:∀ n,n≤L.length→(firstMet (fun i=>(L.map fun n:Nat=>(n:Int)).getD i 0) n).length=cnt L n:=fun n=>by
  induction n with
  | zero=>intro _; rfl
  | succ n ih=>
   intro hn
   have hv:∀ i,i < L.length→(L.map fun n:Nat=>(n:Int)).getD i 0=((L.getD i 0:Nat):Int):=fun i hi=>by
    rw [List.getD_eq_getElem?_getD,List.getElem?_map,List.getElem?_eq_getElem hi,List.getD_eq_getElem?_getD,List.getElem?_eq_getElem hi]
    rfl
   rw [firstMet_succ,step_length,ih (by omega),firstMet_any,hv n (by omega)]
   show _=cnt L n+if L.getD n 0=n then 1 else 0
   by_cases c:L.getD n 0=n
   ·rw [if_pos c,if_neg]
    intro z
    obtain ⟨x,hx,e⟩:=List.any_eq_true.mp z
    obtain ⟨j,hj,rfl⟩:=List.mem_map.mp hx
    have hj':=List.mem_range.mp hj
    have e2:=eq_of_beq e
    rw [hv j (by omega)] at e2
    have:=F.le j (by omega)
    omega
   ·rw [if_neg c,if_pos,Nat.add_zero]
    have l1:=F.le n (by omega)
    refine List.any_eq_true.mpr ⟨_,List.mem_map.mpr ⟨L.getD n 0,List.mem_range.mpr (by omega),rfl⟩,?_⟩
    rw [hv (L.getD n 0) (by omega),F.own n (by omega)]
    simp
 unfold dn metI
 rw [List.length_map]
 exact key _ (Nat.le_refl _)
theorem same_kinds {L L':List Nat} (F:Firsts L) (F':Firsts L') (hl:L'.length=L.length) (fine:∀ i j,i < L.length→j < L.length→L'.getD i 0=L'.getD j 0→L.getD i 0=L.getD j 0) (few:dn L'≤dn L) :
  ∀ i j,i < L.length→j < L.length→L.getD i 0=L.getD j 0→L'.getD i 0=L'.getD j 0:=by
 have up:∀ i,i < L.length→L.getD i 0=i→L'.getD i 0=i:=fun i hi e=>by
  have h1:=F'.le i (by omega)
  have h2:=fine (L'.getD i 0) i (by omega) hi (F'.own i (by omega))
  have h3:=F.low i (L'.getD i 0) hi (by omega) h2.symm
  omega
 rw [dn_cnt F,dn_cnt F',hl] at few
 have dnw:=cnt_eq L.length up few
 intro i j hi hj e
 have a1:=F'.le i (by omega)
 have b1:=F'.le j (by omega)
 have a2:=dnw (L'.getD i 0) (by omega) (F'.own i (by omega))
 have b2:=dnw (L'.getD j 0) (by omega) (F'.own j (by omega))
 have a3:=fine (L'.getD i 0) i (by omega) hi (F'.own i (by omega))
 have b3:=fine (L'.getD j 0) j (by omega) hj (F'.own j (by omega))
 omega
def stN (st:List (List Nat)) (i c:Nat):Nat:=(st.getD i []).getD c 0
def wayN (st:List (List Nat)) (i:Nat) (cs:List Nat):Nat:=cs.foldl (stN st) i
def Fut (st:List (List Nat)) (es:List Nat) (w i j:Nat):Prop:=∀ cs:List Nat,(∀ c∈cs,c < w)→(wayN st i cs∈es↔wayN st j cs∈es)
def Rect (st:List (List Nat)) (w:Nat):Prop:=∀ r∈st,r.length=w∧∀ x∈r,x < st.length
theorem getD_in {α:Type} {l:List α} {i:Nat} {d:α} (h:i < l.length):l.getD i d∈l∧l[i]? = some (l.getD i d):=by
 rw [List.getD_eq_getElem?_getD,List.getElem?_eq_getElem h]
 exact ⟨List.getElem_mem h,rfl⟩
theorem stN_lt {st:List (List Nat)} {w i c:Nat} (R:Rect st w) (hi:i < st.length) (hc:c < w):stN st i c < st.length:=by
 obtain ⟨h1,_⟩:=getD_in (l:=st) (d:=[]) hi
 obtain ⟨h2,h3⟩:=R _ h1
 exact h3 _ (getD_in (l:=st.getD i []) (d:=0) (by omega)).1
theorem lkN_len (st:List (List Nat)) (es:List Nat):∀ k,(lkN st es k).length=st.length
 | 0=>by unfold lkN lk0; rw [List.length_map,List.length_map,List.length_range]
 | k+1=>by unfold lkN lkS lkR; rw [List.length_map,List.length_map,List.length_range]
theorem lkR_at {st:List (List Nat)} {L:List Nat} {i:Nat} (hi:i < st.length):(lkR st L)[i]? = some (L.getD i 0 :: (st.getD i []).map fun x=>L.getD x 0):=by
 unfold lkR
 rw [List.getElem?_map,List.getElem?_range hi]
 rfl
theorem lk0_eq {es:List Nat} {n i j:Nat} (hi:i < n) (hj:j < n):(lk0 es n).getD i 0=(lk0 es n).getD j 0↔(i∈es↔j∈es):=by
 have c:Canon ((List.range n).map fun r=>decide (r∈es)) (lk0 es n):=rfl
 have at_:∀ i,i < n→((List.range n).map fun r=>decide (r∈es))[i]? = some (decide (i∈es)):=fun i hi=>by rw [List.getElem?_map,List.getElem?_range hi]; rfl
 rw [canon_eq c (at_ i hi) (at_ j hj)]
 constructor
 ·intro e
  rw [Bool.eq_iff_iff,decide_eq_true_eq,decide_eq_true_eq] at e
  exact e
 ·intro e
  rw [Bool.eq_iff_iff,decide_eq_true_eq,decide_eq_true_eq]
  exact e
theorem lkS_eq {st:List (List Nat)} {L:List Nat} {w i j:Nat} (R:Rect st w) (hi:i < st.length) (hj:j < st.length):(lkS st L).getD i 0=(lkS st L).getD j 0↔(L.getD i 0=L.getD j 0∧∀ c,c < w→L.getD (stN st i c) 0=L.getD (stN st j c) 0):=by
 have cn:Canon (lkR st L) (lkS st L):=rfl
 rw [canon_eq cn (lkR_at hi) (lkR_at hj),List.cons.injEq]
 have li:=(R _ (getD_in (l:=st) (d:=[]) hi).1).1
 have lj:=(R _ (getD_in (l:=st) (d:=[]) hj).1).1
 refine and_congr_right fun _=>⟨fun e c hc=>?_,fun h=>?_⟩
 ·have a:=congrArg (fun z:List Nat=>z[c]?) e
  simp only [List.getElem?_map] at a
  rw [(getD_in (l:=st.getD i []) (d:=0) (show c < _ by omega)).2,(getD_in (l:=st.getD j []) (d:=0) (show c < _ by omega)).2] at a
  exact Option.some.inj a
 ·refine List.ext_getElem? fun c=>?_
  rw [List.getElem?_map,List.getElem?_map]
  rcases Nat.lt_or_ge c w with z | z
  ·rw [(getD_in (l:=st.getD i []) (d:=0) (show c < _ by omega)).2,(getD_in (l:=st.getD j []) (d:=0) (show c < _ by omega)).2]
   exact congrArg some (h c z)
  ·rw [List.getElem?_eq_none (by omega),List.getElem?_eq_none (by omega)]
theorem lkN_firsts (st:List (List Nat)) (es:List Nat):∀ k,Firsts (lkN st es k)
 | 0=>Canon.firsts (rs:=(List.range st.length).map fun r=>decide (r∈es)) rfl
 | k+1=>Canon.firsts (rs:=lkR st (lkN st es k)) rfl
theorem lkN_base {st:List (List Nat)} {es:List Nat} {w:Nat} (R:Rect st w):∀ k i j,i < st.length→j < st.length→(lkN st es k).getD i 0=(lkN st es k).getD j 0→(i∈es↔j∈es)
 | 0,i,j,hi,hj,e=>(lk0_eq hi hj).mp e
 | k+1,i,j,hi,hj,e=>lkN_base R k i j hi hj ((lkS_eq R hi hj).mp e).1
theorem lkN_fut {st:List (List Nat)} {es:List Nat} {w:Nat} (R:Rect st w):∀ k i j,i < st.length→j < st.length→Fut st es w i j→(lkN st es k).getD i 0=(lkN st es k).getD j 0
 | 0,i,j,hi,hj,f=>(lk0_eq hi hj).mpr (f [] fun c hc=>by cases hc)
 | k+1,i,j,hi,hj,f=>(lkS_eq R hi hj).mpr ⟨lkN_fut R k i j hi hj f,fun c hc=>lkN_fut R k _ _ (stN_lt R hi hc) (stN_lt R hj hc) fun cs hcs=>f (c :: cs) fun d hd=>by
   rcases List.mem_cons.mp hd with z | z
   ·rw [z]; exact hc
   ·exact hcs d z⟩
theorem lk_end {st:List (List Nat)} {es:List Nat} {w k:Nat} (R:Rect st w) (few:dn (lkN st es (k+1))≤dn (lkN st es k)) {i j:Nat} (hi:i < st.length) (hj:j < st.length) :
  (lkN st es (k+1)).getD i 0=(lkN st es (k+1)).getD j 0↔Fut st es w i j:=by
 refine ⟨fun e=>?_,lkN_fut R (k+1) i j hi hj⟩
 have l0:=lkN_len st es k
 have l1:=lkN_len st es (k+1)
 have sk:=same_kinds (lkN_firsts st es k) (lkN_firsts st es (k+1)) (by rw [l1,l0]) (fun i j hi hj e=>((lkS_eq R (by omega) (by omega)).mp e).1) few
 have walk:∀ (cs:List Nat) (i j:Nat),i < st.length→j < st.length→(∀ c∈cs,c < w)→(lkN st es (k+1)).getD i 0=(lkN st es (k+1)).getD j 0→(wayN st i cs∈es↔wayN st j cs∈es):=by
  intro cs
  induction cs with
  | nil=>exact fun i j hi hj _ e=>lkN_base R (k+1) i j hi hj e
  | cons c cs ih=>
   intro i j hi hj hc e
   have h1:=((lkS_eq R hi hj).mp e).2 c (hc c List.mem_cons_self)
   have a:=stN_lt R hi (hc c List.mem_cons_self)
   have b:=stN_lt R hj (hc c List.mem_cons_self)
   exact ih _ _ a b (fun d hd=>hc d (List.mem_cons_of_mem _ hd)) (sk _ _ (by omega) (by omega) h1)
 exact fun cs hcs=>walk cs i j hi hj hcs e
theorem nodup_lt:∀ (n:Nat) (l:List Nat),l.Nodup→(∀ x∈l,x < n)→l.length≤n
 | 0,[],_,_=>Nat.le_refl _
 | 0,x :: _,_,h=>absurd (h x List.mem_cons_self) (Nat.not_lt_zero _)
 | n+1,l,nd,h=>by
  have ih:=nodup_lt n (l.filter (· != n)) (nd.filter _) fun x hx=>by
   obtain ⟨h1,h2⟩:=List.mem_filter.mp hx
   have:=h x h1
   have h3:x≠n:=by simpa using h2
   omega
  have key:∀ (l:List Nat),l.Nodup→l.length≤(l.filter (· != n)).length+1:=by
   intro l
   induction l with
   | nil=>intro _; exact Nat.zero_le _
   | cons a t iht=>
    intro nd
    obtain ⟨na,nt⟩:=List.nodup_cons.mp nd
    rw [List.filter_cons]
    by_cases c:a=n
    ·subst c
     rw [if_neg (by simp)]
     have:t.filter (· != a)=t:=List.filter_eq_self.mpr fun x hx=>by
      have:x≠a:=fun z=>na (z▸hx)
      simpa using this
     rw [this]
     exact Nat.le_refl _
    ·rw [if_pos (by simpa using c)]
     have:=iht nt
     simp only [List.length_cons]
     omega
  have:=key l nd
  omega
inductive Pw (R:Nat→Nat→Prop):List Nat→List Nat→Prop
 | nil:Pw R [] []
 | cons {a b:Nat} {l m:List Nat}:R a b→Pw R l m→Pw R (a :: l) (b :: m)
variable {R:Nat→Nat→Prop} {k1 k2:Nat→Nat}
theorem Pw.len {l m:List Nat} (h:Pw R l m):l.length=m.length:=by
 induction h with
 | nil=>rfl
 | cons _ _ ih=>rw [List.length_cons,List.length_cons,ih]
theorem Pw.snoc {l m:List Nat} (h:Pw R l m) {a b:Nat} (r:R a b):Pw R (l ++ [a]) (m ++ [b]):=by
 induction h with
 | nil=>exact .cons r .nil
 | cons q _ ih=>exact .cons q ih
theorem Pw.get {l m:List Nat} (h:Pw R l m):∀ {i:Nat} {x:Nat},l[i]? = some x→∃ y,m[i]? = some y∧R x y:=by
 induction h with
 | nil=>intro i x e; simp at e
 | cons q _ ih=>
  intro i x e
  cases i with
  | zero=>cases e; exact ⟨_,rfl,q⟩
  | succ i=>exact ih (by simpa using e)
theorem Pw.of:∀ {l m:List Nat},l.length=m.length→(∀ (i:Nat) x y,l[i]? = some x→m[i]? = some y→R x y)→Pw R l m
 | [],[],_,_=>.nil
 | [],_ :: _,h,_=>nomatch h
 | _ :: _,[],h,_=>nomatch h
 | a :: l,b :: m,h,q=>.cons (q 0 a b rfl rfl) (Pw.of (by simpa using h) fun i x y e1 e2=>q (i+1) x y (by simpa using e1) (by simpa using e2))
def KR (R:Nat→Nat→Prop) (k1 k2:Nat→Nat):Prop:=∀ x y x' y',R x y→R x' y'→(k1 x=k1 x'↔k2 y=k2 y')
theorem Pw.mem (kr:KR R k1 k2) {l m:List Nat} (h:Pw R l m) {x y:Nat} (r:R x y):k1 x∈l.map k1↔k2 y∈m.map k2:=by
 induction h with
 | nil=>exact ⟨fun z=>(List.not_mem_nil z).elim,fun z=>(List.not_mem_nil z).elim⟩
 | cons q _ ih=>rw [List.map_cons,List.map_cons,List.mem_cons,List.mem_cons,ih,kr _ _ _ _ r q]
theorem Pw.idx (kr:KR R k1 k2) {l m:List Nat} (h:Pw R l m) {x y:Nat} (r:R x y):(l.map k1).idxOf (k1 x)=(m.map k2).idxOf (k2 y):=by
 induction h with
 | nil=>rfl
 | @cons a b _ _ q _ ih=>
  rw [List.map_cons,List.map_cons,List.idxOf_cons,List.idxOf_cons,ih]
  have e:=kr _ _ _ _ q r
  by_cases c:k1 a=k1 x
  ·rw [beq_iff_eq.mpr c,beq_iff_eq.mpr (e.mp c)]
  ·rw [beq_eq_false_iff_ne.mpr c,beq_eq_false_iff_ne.mpr fun z=>c (e.mpr z)]
def addK (k:Nat→Nat) (o:List Nat) (x:Nat):List Nat:=if k x∈o.map k then o else o ++ [x]
def ordK (k:Nat→Nat) (T:Nat→List Nat) (b:Nat):Nat→List Nat
 | 0=>[b]
 | i+1=>match (ordK k T b i)[i]? with
  | some x=>(T x).foldl (addK k) (ordK k T b i)
  | none=>ordK k T b i
theorem ordK_succ {k:Nat→Nat} {T:Nat→List Nat} {b i x:Nat} (h:(ordK k T b i)[i]? = some x):ordK k T b (i+1)=(T x).foldl (addK k) (ordK k T b i):=by
 show (match (ordK k T b i)[i]? with | some x=>(T x).foldl (addK k) (ordK k T b i) | none=>ordK k T b i)=_
 rw [h]
theorem ordK_stop {k:Nat→Nat} {T:Nat→List Nat} {b i:Nat} (h:(ordK k T b i).length≤i):∀ j,i≤j→ordK k T b j=ordK k T b i
 | 0,hj=>by rw [Nat.le_zero.mp hj]
 | j+1,hj=>by
  rcases Nat.lt_or_ge i (j+1) with z | z
  ·have ih:=ordK_stop h j (by omega)
   show (match (ordK k T b j)[j]? with | some x=>(T x).foldl (addK k) (ordK k T b j) | none=>ordK k T b j)=_
   rw [ih,List.getElem?_eq_none (by omega)]
  ·rw [show i=j+1 by omega]
theorem Pw.fold (kr:KR R k1 k2) {t u:List Nat} (h:Pw R t u):∀ {l m:List Nat},Pw R l m→Pw R (t.foldl (addK k1) l) (u.foldl (addK k2) m):=by
 induction h with
 | nil=>exact fun h=>h
 | @cons a b _ _ q _ ih=>
  intro l m h
  refine ih ?_
  unfold addK
  by_cases c:k1 a∈l.map k1
  ·rw [if_pos c,if_pos ((h.mem kr q).mp c)]
   exact h
  ·rw [if_neg c,if_neg fun z=>c ((h.mem kr q).mpr z)]
   exact h.snoc q
theorem Pw.ord (kr:KR R k1 k2) {T1 T2:Nat→List Nat} (ht:∀ x y,R x y→Pw R (T1 x) (T2 y)) {b1 b2:Nat} (hb:R b1 b2):∀ i,Pw R (ordK k1 T1 b1 i) (ordK k2 T2 b2 i)
 | 0=>.cons hb .nil
 | i+1=>by
  have ih:=Pw.ord kr ht hb i
  cases e:(ordK k1 T1 b1 i)[i]? with
  | none=>
   have l1:=List.getElem?_eq_none_iff.mp e
   rw [ordK_stop l1 _ (Nat.le_succ _),ordK_stop (by rw [← ih.len]; exact l1) _ (Nat.le_succ _)]
   exact ih
  | some x=>
   obtain ⟨y,hy,r⟩:=ih.get e
   rw [ordK_succ e,ordK_succ hy]
   exact Pw.fold kr (ht x y r) ih
theorem addK_all {k:Nat→Nat} {P:Nat→Prop} {o:List Nat} {x:Nat} (h:∀ y∈o,P y) (hx:P x):∀ y∈addK k o x,P y:=by
 unfold addK
 intro y hy
 by_cases c:k x∈o.map k
 ·rw [if_pos c] at hy
  exact h y hy
 ·rw [if_neg c] at hy
  rcases List.mem_append.mp hy with z | z
  ·exact h y z
  ·rw [List.mem_singleton.mp z]
   exact hx
theorem addK_nd {k:Nat→Nat} {o:List Nat} {x:Nat} (h:(o.map k).Nodup):((addK k o x).map k).Nodup:=by
 unfold addK
 by_cases c:k x∈o.map k
 ·rw [if_pos c]; exact h
 ·rw [if_neg c,List.map_append,List.nodup_append]
  refine ⟨h,by simp,?_⟩
  intro a ha b hb e
  have:b=k x:=by simpa using hb
  rw [e,this] at ha
  exact c ha
theorem addK_pre {k:Nat→Nat} {o:List Nat} {x:Nat}:o <+: addK k o x:=by
 unfold addK
 by_cases c:k x∈o.map k
 ·rw [if_pos c]; exact List.prefix_rfl
 ·rw [if_neg c]; exact List.prefix_append _ _
theorem addK_mem {k:Nat→Nat} {o:List Nat} {x:Nat}:k x∈(addK k o x).map k:=by
 unfold addK
 by_cases c:k x∈o.map k
 ·rw [if_pos c]; exact c
 ·rw [if_neg c,List.map_append]
  simp
theorem fold_pre {k:Nat→Nat}:∀ (t o:List Nat),o <+: t.foldl (addK k) o
 | [],_=>List.prefix_rfl
 | _ :: t,o=>addK_pre.trans (fold_pre t _)
theorem fold_all {k:Nat→Nat} {P:Nat→Prop}:∀ (t o:List Nat),(∀ y∈o,P y)→(∀ y∈t,P y)→∀ y∈t.foldl (addK k) o,P y
 | [],_,h,_=>h
 | a :: t,o,h,ht=>fold_all t _ (addK_all h (ht a List.mem_cons_self)) fun y hy=>ht y (List.mem_cons_of_mem _ hy)
theorem fold_nd {k:Nat→Nat}:∀ (t o:List Nat),(o.map k).Nodup→((t.foldl (addK k) o).map k).Nodup
 | [],_,h=>h
 | _ :: t,o,h=>fold_nd t _ (addK_nd h)
theorem fold_mem {k:Nat→Nat}:∀ (t o:List Nat) (x:Nat),x∈t→k x∈(t.foldl (addK k) o).map k
 | a :: t,o,x,h=>by
  rcases List.mem_cons.mp h with z | z
  ·subst z
   exact (List.IsPrefix.map k (fold_pre t (addK k o x))).subset addK_mem
  ·exact fold_mem t _ x z
theorem ordK_pre1 {k:Nat→Nat} {T:Nat→List Nat} {b:Nat} (i:Nat):ordK k T b i <+: ordK k T b (i+1):=by
 cases e:(ordK k T b i)[i]? with
 | none=>rw [ordK_stop (List.getElem?_eq_none_iff.mp e) _ (Nat.le_succ _)]; exact List.prefix_rfl
 | some x=>rw [ordK_succ e]; exact fold_pre _ _
theorem ordK_pre {k:Nat→Nat} {T:Nat→List Nat} {b i:Nat}:∀ j,i≤j→ordK k T b i <+: ordK k T b j
 | 0,hj=>by rw [Nat.le_zero.mp hj]; exact List.prefix_rfl
 | j+1,hj=>by
  rcases Nat.lt_or_ge i (j+1) with z | z
  ·exact (ordK_pre j (by omega)).trans (ordK_pre1 j)
  ·rw [show i=j+1 by omega]; exact List.prefix_rfl
theorem ordK_all {k:Nat→Nat} {T:Nat→List Nat} {b:Nat} {P:Nat→Prop} (hb:P b) (ht:∀ x,P x→∀ y∈T x,P y):∀ i,∀ y∈ordK k T b i,P y
 | 0,y,hy=>by rw [List.mem_singleton.mp hy]; exact hb
 | i+1,y,hy=>by
  have ih:=ordK_all hb ht (k:=k) i
  cases e:(ordK k T b i)[i]? with
  | none=>rw [ordK_stop (List.getElem?_eq_none_iff.mp e) _ (Nat.le_succ _)] at hy; exact ih y hy
  | some x=>rw [ordK_succ e] at hy; exact fold_all _ _ ih (ht x (ih x (List.mem_of_getElem? e))) y hy
theorem ordK_nd {k:Nat→Nat} {T:Nat→List Nat} {b:Nat}:∀ i,((ordK k T b i).map k).Nodup
 | 0=>by show ([b].map k).Nodup; simp
 | i+1=>by
  cases e:(ordK k T b i)[i]? with
  | none=>rw [ordK_stop (List.getElem?_eq_none_iff.mp e) _ (Nat.le_succ _)]; exact ordK_nd i
  | some x=>rw [ordK_succ e]; exact fold_nd _ _ (ordK_nd i)
theorem ordK_pos {k:Nat→Nat} {T:Nat→List Nat} {b:Nat} (i:Nat):0 < (ordK k T b i).length∧(ordK k T b i)[0]? = some b:=by
 have h:=ordK_pre (k:=k) (T:=T) (b:=b) i (Nat.zero_le i)
 obtain ⟨t,e⟩:=h
 rw [← e]
 exact ⟨by show 0 < ([b] ++ t).length; simp,rfl⟩
theorem ordK_len {k:Nat→Nat} {T:Nat→List Nat} {b n:Nat} {P:Nat→Prop} (hb:P b) (ht:∀ x,P x→∀ y∈T x,P y) (hk:∀ x,P x→k x < n) (i:Nat):(ordK k T b i).length≤n:=by
 have:=nodup_lt n _ (ordK_nd (k:=k) (T:=T) (b:=b) i) fun x hx=>by
  obtain ⟨y,hy,e⟩:=List.mem_map.mp hx
  rw [← e]
  exact hk y (ordK_all hb ht i y hy)
 rwa [List.length_map] at this
theorem ordK_met {k:Nat→Nat} {T:Nat→List Nat} {b n:Nat} {j x y:Nat} (hj:(ordK k T b n)[j]? = some x) (hn:j < n) (hy:y∈T x):k y∈(ordK k T b n).map k:=by
 have p1:=ordK_pre (k:=k) (T:=T) (b:=b) (i:=j) n (by omega)
 have p2:=ordK_pre (k:=k) (T:=T) (b:=b) (i:=j+1) n hn
 rcases Nat.lt_or_ge j (ordK k T b j).length with z | z
 ·have e:(ordK k T b j)[j]? = some x:=by
   obtain ⟨t,e⟩:=p1
   rw [← e,List.getElem?_append_left z] at hj
   exact hj
  refine (List.IsPrefix.map k p2).subset ?_
  rw [ordK_succ e]
  exact fold_mem _ _ y hy
 ·have:=ordK_stop z n (by omega)
  rw [this,List.getElem?_eq_none z] at hj
  cases hj
def rowsK (k:Nat→Nat) (T:Nat→List Nat) (o:List Nat):List (List Nat):=o.map fun x=>(T x).map fun t=>(o.map k).idxOf (k t)
def endsK (o:List Nat) (e:Nat→Bool):List Nat:=(List.range o.length).filter fun i=>e (o.getD i 0)
theorem Pw.rows (kr:KR R k1 k2) {T1 T2:Nat→List Nat} (ht:∀ x y,R x y→Pw R (T1 x) (T2 y)) {o p:List Nat} (h:Pw R o p):rowsK k1 T1 o=rowsK k2 T2 p:=by
 have inner:∀ {t u:List Nat},Pw R t u→(t.map fun x=>(o.map k1).idxOf (k1 x))=u.map fun x=>(p.map k2).idxOf (k2 x):=by
  intro t u hu
  induction hu with
  | nil=>rfl
  | cons q _ ih=>rw [List.map_cons,List.map_cons,ih,h.idx kr q]
 have outer:∀ {o' p':List Nat},Pw R o' p'→(o'.map fun x=>(T1 x).map fun t=>(o.map k1).idxOf (k1 t))=p'.map fun x=>(T2 x).map fun t=>(p.map k2).idxOf (k2 t):=by
  intro o' p' hu
  induction hu with
  | nil=>rfl
  | cons q _ ih=>rw [List.map_cons,List.map_cons,ih,inner (ht _ _ q)]
 exact outer h
theorem Pw.ends {o p:List Nat} (h:Pw R o p) {e1 e2:Nat→Bool} (he:∀ x y,R x y→e1 x=e2 y):endsK o e1=endsK p e2:=by
 unfold endsK
 rw [h.len]
 refine List.filter_congr fun i hi=>?_
 have hi':=List.mem_range.mp hi
 have hi2:i < o.length:=by rw [h.len]; exact hi'
 obtain ⟨y,hy,r⟩:=h.get (List.getElem?_eq_getElem hi2)
 rw [List.getD_eq_getElem?_getD,List.getElem?_eq_getElem hi2,List.getD_eq_getElem?_getD,hy]
 exact he _ _ r
theorem ifN {c:Bool} {A B:Prop} (h:c=false) (b:B):if c=true then A else B:=by rw [h]; exact b
theorem ifY {c:Bool} {A B:Prop} (h:c=true) (a:A):if c=true then A else B:=by rw [if_pos h]; exact a
inductive spStI (f:Addr) (fd:FuncData) (l:Str) (g:Nat→Nat→Nat) (pl:Nat→Prop) (G:Hp→Prop) (vs:List V) (H:Hp) (Q:VK):Prop
 | mk (x c:_) (h1:vs=[nI x,.str (one c)]) (h2:pl x) (h3:c∈l.cps.toList) (h4:H f=some (FnO f fd)) (h5:G H) (h6:∀ H',Same H H'→Q (nI (g x c)) H'):spStI f fd l g pl G vs H Q
def spSt (f:Addr) (fd:FuncData) (l:Str) (g:Nat→Nat→Nat) (pl:Nat→Prop) (G:Hp→Prop):Sp:=fun vs H Q u3_=>spStI f fd l g pl G vs H Q
def TL (l:Str) (g:Nat→Nat→Nat) (x:Nat):List Nat:=l.cps.toList.map (g x)
def kI (x:Nat):Key:=Sum.inl ((x:Nat):Int)
theorem kI_inj {x y:Nat} (h:kI x=kI y):x=y:=by
 have:((x:Nat):Int)=y:=Sum.inl.inj h
 omega
def TxD (H:Hp) (d:Addr) (o:List Nat) (n:Nat):Prop:=∃ kvs:List (Key × V),H d=some (.dK kvs)∧kvs.map (·.1)=o.map kI∧∀ p∈kvs,∃ z:Str,p.2=.str z∧z.length≤n
theorem keys_no:∀ {kvs:List (Key × V)} {o:List Nat} {x:Nat},kvs.map (·.1)=o.map kI→x∉o→valV kvs (kI x)=none
 | [],_,_,_,_=>rfl
 | _ :: _,[],_,h,_=>nomatch h
 | p :: kvs,a :: o,x,h,hx=>by
  rw [List.map_cons,List.map_cons,List.cons.injEq] at h
  rw [valV_neg (fun z=>hx (by rw [kI_inj (h.1.symm.trans z)]; exact List.mem_cons_self))]
  exact keys_no h.2 fun z=>hx (List.mem_cons_of_mem _ z)
theorem keys_yes:∀ {kvs:List (Key × V)} {o:List Nat} {x:Nat},kvs.map (·.1)=o.map kI→x∈o→∃ p∈kvs,valV kvs (kI x)=some p.2∧p.1=kI x
 | [],[],_,_,hx=>nomatch hx
 | [],_ :: _,_,h,_=>nomatch h
 | _ :: _,[],_,h,_=>nomatch h
 | p :: kvs,a :: o,x,h,hx=>by
  rw [List.map_cons,List.map_cons,List.cons.injEq] at h
  by_cases c:a=x
  ·exact ⟨p,List.mem_cons_self,valV_pos (by rw [h.1,c]),by rw [h.1,c]⟩
  ·rw [valV_neg (fun z=>c (kI_inj (h.1.symm.trans z)))]
   obtain ⟨q,hq,e⟩:=keys_yes h.2 ((List.mem_cons.mp hx).resolve_left fun z=>c z.symm)
   exact ⟨q,List.mem_cons_of_mem _ hq,e⟩
theorem str_app (z:Str) (c:Nat):(z ++ (⟨#[c]⟩:Str)).length=z.length+1:=by
 show (z.cps ++ #[c]).size=z.cps.size+1
 simp
theorem addK_id (o:List Nat) (x:Nat):addK id o x=if x∈o then o else o ++ [x]:=by
 unfold addK
 rw [List.map_id]
 rfl
theorem TxD.same {H H':Hp} {d:Addr} {o:List Nat} {n:Nat} (h:TxD H d o n) (e:Same H H'):TxD H' d o n:=let ⟨kvs,a,b⟩:=h; ⟨kvs,e _ _ a,b⟩
inductive spWkI (P:Program) (w:World) (K:PySem.W.Frag) (mg:Str→Option Value) (base:Heap) (n:Nat) (vs:List V) (H:Hp) (Q:VK):Prop
 | mk (f:Addr) (fd:FuncData) (ps:List Str) (l:Str) (b:Nat) (g:Nat→Nat→Nat) (pl:Nat→Prop) (G:Hp→Prop) (h1:FnOk P w K mg base CX0 n f fd ps (spSt f fd l g pl G)) (h2:Binds K fd ps []) (h3:(∀ H1 H2,Same H1 H2→G H1→G H2)) (h4:vs=[.str l,nI b,.ref f]) (h5:pl b) (h6:(∀ x,pl x→x < 216∧∀ c∈l.cps.toList,pl (g x c))) (h7:H f=some (FnO f fd)) (h8:G H) (h9:∀ d H' N,H d=none→Same H H'→TxD H' d (ordK id (TL l g) b N) 300→(ordK id (TL l g) b N).length≤N→Q (.ref d) H'):spWkI P w K mg base n vs H Q
def spWk (P:Program) (w:World) (K:PySem.W.Frag) (mg:Str→Option Value) (base:Heap) (n:Nat):Sp:=fun vs H Q u3_=>spWkI P w K mg base n vs H Q
def woW (l:Str) (fv d:Addr) (g:Nat→Nat→Nat) (b:Nat) (H:Hp) (mm:Nat) (σ:L2.St) (H5:Hp):Prop:=∃ (i:Nat) (lv:Addr) (v5 v6 v7 v8:Option V),mm=217 - i∧i≤(ordK id (TL l g) b i).length∧σ=[some (.str l),some (nI b),some (.ref fv),some (.ref d),some (.ref lv),v5,v6,v7,v8]∧H lv=none∧H5 lv=some (.lst (((ordK id (TL l g) b i).drop i).map nI))∧TxD H5 d (ordK id (TL l g) b i) (ordK id (TL l g) b i).length∧Same H H5
def woL (l:Str) (fv d:Addr) (g:Nat→Nat→Nat) (b:Nat) (H:Hp) (lv rp:Addr) (i:Nat) (L:List Nat) (j:Nat) (σ:L2.St) (H7:Hp):Prop:=∃ (v6 v7 v8:Option V),σ=[some (.str l),some (nI b),some (.ref fv),some (.ref d),some (.ref lv),some (.ref rp),v6,v7,v8]∧H7 lv=some (.lst ((L.drop i).map nI))∧H7 rp=some (.lst (((ordK id (TL l g) b (i+j)).drop L.length).map nI))∧TxD H7 d (ordK id (TL l g) b (i+j)) (ordK id (TL l g) b (i+j)).length∧Same H H7
theorem ok_walked {n:Nat} {f:Addr} {fd:FuncData} (F:Fun K "walked" "walked" s_walked f fd) (Z:Blt mg):FnOk P w K mg base CX0 (n+1) f fd ["letters","begin","step"] (spWk P w K mg base n):=by
 refine F.ok sc_walked (fun vs H Q E h=>?_) (fun cdv A outer s H vs Q E hr h=>?_)
 ·obtain ⟨f,fd,ps,l,b,g,pl,G,_,_,_,rfl,_⟩:=h
  rfl
 obtain ⟨fv,fdv,ps,l,b,g,pl,G,Fv_step,bv_step,hG,rfl,hb,hpl,hf,hGH,k⟩:=h
 refine ⟨_,(pss_cons (ps_set (i:=3) sc_walked.nd (by rfl) (Or.inl (by rfl)) (pe_disp (pps_cons (pv 1) pe_str pps_nil) (by rfl) (by rfl) (by intro h; cases h) (by show 1≤15; decide))) 
   (pss_cons (ps_set (i:=4) sc_walked.nd (by rfl) (Or.inl (by rfl)) (pe_lst (pa_cons (pv 1) pa_nil))) 
   (pss_cons (ps_while PassesOwn.never (pt_truthK (K:=K) (pv 4) (fun _=>rfl)) 
    (pss_cons (ps_set (i:=5) sc_walked.nd (by rfl) (Or.inl (by rfl)) (pe_lst pa_nil)) 
    (pss_cons (ps_for PassesOwn.never (by rfl) (pi_listK (K:=K) (pv 4)) (pg_name (i:=6) sc_walked.nd (by rfl) (Or.inl (by rfl))) 
     (pss_one (ps_for PassesOwn.never (by rfl) (pi_str (pv 0)) (pg_name (i:=7) sc_walked.nd (by rfl) (Or.inl (by rfl))) 
      (pss_cons (ps_set (i:=8) sc_walked.nd (by rfl) (Or.inl (by rfl)) (pe_callV (i:=2) Fv_step (hr.mono (by omega)) bv_step (pa_cons (pv 6) (pa_cons (pv 7) pa_nil)))) 
      (pss_one (ps_if (pt_cmp (pc_dnotin (hu_of hr) (pv 8) (pv 3))) 
       (pss_cons (ps_dput (hu_of hr) (pv 3) (pv 8) (pe_op op_add_str (pe_dget (hu_of hr) (pv 3) (pv 6) (fun _ _=>rfl)) (pv 7)) rfl) 
       (pss_one (ps_expr (pe_bmK (K:=K) PySem.F.plainAttrs_list PySem.F.slot_list_append PySem.F.type_list_append mt_append (pv 5) (pa_cons (pv 8) pa_nil))))) pss_nil)))))) 
    (pss_one (ps_set (i:=4) sc_walked.nd (by rfl) (Or.inl (by rfl)) (pv 5)))))) 
   (pss_one (ps_ret (pv 3)))))),?_⟩
 refine (let zz0:TS:=_; let zz1:TS:=_; let zz2:TS:=_; let zz3:TS:=tSeq _ zz2; let zz4:TS:=(tIfS _ zz3 _); let zz5:TS:=tSeq _ zz4; let zz6:TS:=(tFor _ _ zz5); let zz7:TS:=tSeq (tFor _ _ zz6) zz1; let zz8:TS:=tSeq _ zz7; let zz9:TS:=tSeq (tWhile _ zz8) zz0; let zz10:TS:=tSeq _ zz9; (?_:tSeq _ zz10 _ _ _))
 have hT:∀ x,pl x→∀ y∈TL l g x,pl y:=fun x hx y hy=>by
  obtain ⟨c,hc,e⟩:=List.mem_map.mp hy
  rw [← e]
  exact (hpl x hx).2 c hc
 have oL:∀ i,(ordK id (TL l g) b i).length≤216:=fun i=>ordK_len hb hT (fun x hx=>(hpl x hx).1) i
 have oP:∀ i,∀ y∈ordK id (TL l g) b i,pl y:=fun i=>ordK_all hb hT i
 refine fun d hd=>⟨_,rfl,upd_same,[(kI b,.str "")],rfl,by show 1≤15; decide,?_⟩
 have h1d:upd (upd H d (.dK [])) d (.dK (mergeK [] [(kI b,V.str "")])) d=some (.dK [(kI b,V.str "")]):=upd_same
 have e1:Same H (upd (upd H d (.dK [])) d (.dK (mergeK [] [(kI b,V.str "")]))):=same_put (same_new hd _) hd _
 generalize upd (upd H d (.dK [])) d (.dK (mergeK [] [(kI b,V.str "")]))=H1 at h1d e1
 refine ⟨_,rfl,(by show 1≤sizeLine; decide),fun lv hlv=>?_⟩
 have s2:=same_new hlv (.lst [nI b])
 have h2l:upd H1 lv (.lst [nI b]) lv=some (.lst [nI b]):=upd_same
 generalize upd H1 lv (.lst [nI b])=H2 at s2 h2l
 refine ⟨woW l fv d g b H,
  ⟨_,0,lv,none,none,none,none,rfl,Nat.zero_le _,rfl,none_of e1 hlv,h2l,⟨_,s2 _ _ h1d,rfl,fun p hp=>?_⟩,e1.trans s2⟩,?_⟩
 ·rw [List.mem_singleton.mp hp]
  exact ⟨_,rfl,Nat.zero_le _⟩
 clear h2l s2 hlv lv h1d e1
 rintro mm σ H5 ⟨i,lv,v5,v6,v7,v8,rfl,hi,rfl,hlv0,h5l,T5,e5⟩
 have hD:∀ {H:Hp} {a:Addr} {xs:List V} {o:List Nat} {n:Nat},H a=some (.lst xs)→TxD H d o n→a≠d:=fun ha ⟨_,hk,_⟩=>ne_of ha hk fun z=>nomatch z
 generalize hL:ordK id (TL l g) b i=L at hi h5l T5
 have hLl:=oL i
 rw [hL] at hLl
 refine ⟨_,rfl,_,.inl ⟨_,SqL.of h5l,rfl⟩,?_⟩
 refine ite2 (fun c1=>?_) (fun c1=>?_)
 ·have hlt:i < L.length:=by
   rcases Nat.lt_or_ge i L.length with z | z
   ·exact z
   ·rw [List.drop_eq_nil_of_le z] at c1
    cases c1
  refine ⟨fun σ' H'=>∃ m',m' < 217 - i∧_,fun _ _ z=>z,?_⟩
  refine ⟨(by show 0≤sizeLine; decide),fun rp hrp=>?_⟩
  have s6:=same_new hrp (.lst [])
  have h6r:upd H5 rp (.lst []) rp=some (.lst []):=upd_same
  have hrp0:=none_of e5 hrp
  have nlr:lv≠rp:=ne_of_none h5l hrp
  generalize upd H5 rp (.lst [])=H6 at s6 h6r
  refine ⟨_,rfl,lv,rfl,⟨_,SqL.of (s6 _ _ h5l)⟩,?_⟩
  refine for_list (K:=K) (a:=lv) (xs:=(L.drop i).map nI) (woL l fv d g b H lv rp i L)
   ⟨v6,v7,v8,rfl,s6 _ _ h5l,by rw [h6r,Nat.add_zero,hL,List.drop_length]; rfl,by rw [Nat.add_zero,hL]; exact T5.same s6,e5.trans s6⟩ (fun j σ H7 _ h=>?_) ?_ ?_
  ·obtain ⟨_,_,_,_,h7,_⟩:=h
   exact SqL.of h7
  ·rintro j x σ H7 hx ⟨v6,v7,v8,rfl,h7l,h7r,T7,e7⟩
   rw [List.getElem?_map,List.getElem?_drop] at hx
   cases hxx:L[i+j]? with
   | none=>rw [hxx] at hx; cases hx
   | some y=>
    rw [hxx] at hx
    cases hx
    have hoj:(ordK id (TL l g) b (i+j))[i+j]? = some y:=by
     obtain ⟨t,e⟩:=ordK_pre (k:=id) (T:=TL l g) (b:=b) (i:=i) (i+j) (by omega)
     rw [← e,hL,List.getElem?_append_left (List.getElem?_eq_some_iff.mp hxx).1]
     exact hxx
    have hLle:L.length≤(ordK id (TL l g) b (i+j)).length:=by
     rw [← hL]
     exact (ordK_pre (k:=id) (T:=TL l g) (b:=b) (i:=i) (i+j) (by omega)).length_le
    have hsucc:=ordK_succ hoj
    have hply:=oP (i+j) y (List.mem_of_getElem? hoj)
    have hnd:=ordK_nd (k:=id) (T:=TL l g) (b:=b) (i+j)
    generalize hO:ordK id (TL l g) b (i+j)=O at hoj hLle hsucc hnd h7r T7
    have hall:∀ z∈O,pl z:=by rw [← hO]; exact oP (i+j)
    refine ⟨_,rfl,l,rfl,?_⟩
    refine for_str (cs:=l.cps.toList) (fun m σ H8=>∃ (v7 v8:Option V),σ=[some (.str l),some (nI b),some (.ref fv),some (.ref d),some (.ref lv),some (.ref rp),some (nI y),v7,v8]∧H8 lv=some (.lst ((L.drop i).map nI))∧H8 rp=some (.lst (((((TL l g y).take m).foldl (addK id) O).drop L.length).map nI))∧TxD H8 d (((TL l g y).take m).foldl (addK id) O) (((TL l g y).take m).foldl (addK id) O).length∧Same H H8)
     ⟨v7,v8,rfl,h7l,h7r,T7,e7⟩ ?_ ?_
    ·rintro m c σ H8 hc ⟨v7,v8,rfl,h8l,h8r,T8,e8⟩
     have hcl:c∈l.cps.toList:=List.mem_of_getElem? hc
     have hTm:(TL l g y)[m]? = some (g y c):=by unfold TL; rw [List.getElem?_map,hc]; rfl
     have htk:((TL l g y).take (m+1)).foldl (addK id) O=addK id (((TL l g y).take m).foldl (addK id) O) (g y c):=by
      rw [List.take_add_one,hTm,List.foldl_append]
      rfl
     have hpre:=fold_pre (k:=id) ((TL l g y).take m) O
     have hnd8:=fold_nd (k:=id) ((TL l g y).take m) O hnd
     have hal8:=fold_all (k:=id) (P:=pl) ((TL l g y).take m) O hall fun z hz=>hT y hply z (List.mem_of_mem_take hz)
     have hy8:y∈((TL l g y).take m).foldl (addK id) O:=hpre.subset (List.mem_of_getElem? hoj)
     have hLO:L.length≤(((TL l g y).take m).foldl (addK id) O).length:=Nat.le_trans hLle hpre.length_le
     rw [htk]
     generalize ((TL l g y).take m).foldl (addK id) O=O8 at h8r T8 hpre hnd8 hal8 hy8 hLO
     have hO8:O8.length≤216:=by
      have:=nodup_lt 216 _ hnd8 fun z hz=>by
       rw [List.map_id] at hz
       exact (hpl z (hal8 z hz)).1
      rwa [List.length_map] at this
     refine ⟨rfl,e8 _ _ hf,_,rfl,_,rfl,e8 _ _ hf,y,c,rfl,hply,hcl,e8 _ _ hf,hG _ _ e8 hGH,fun H9 e9=>?_⟩
     have T9:=T8.same e9
     have h9l:=e9 _ _ h8l
     have h9r:=e9 _ _ h8r
     have e09:=e8.trans e9
     obtain ⟨kvs,h9d,hk,hv⟩:=T9
     have hkl:kvs.length=O8.length:=by
      have:=congrArg List.length hk
      rwa [List.length_map,List.length_map] at this
     refine ⟨_,rfl,_,rfl,d,_,rfl,DGet.k (k:=kI (g y c)) h9d,_,rfl,?_⟩
     rw [addK_id]
     by_cases hin:g y c∈O8
     ·obtain ⟨p,_,hp,_⟩:=keys_yes hk hin
      rw [hp,if_pos hin]
      refine ifN rfl ⟨_,_,rfl,h9l,h9r,⟨kvs,h9d,hk,hv⟩,e09⟩
     ·have hno:=keys_no hk hin
      rw [hno,if_neg hin]
      obtain ⟨p,hpk,hp,_⟩:=keys_yes hk hy8
      obtain ⟨z,hz,hzl⟩:=hv p hpk
      rw [hz] at hp
      refine ifY rfl ⟨_,rfl,_,rfl,d,_,rfl,hp▸DGet.k (k:=kI y) h9d,_,rfl,z,_,rfl,rfl,(by show z.length+1≤sizeLine; rw [sizeLine_eq]; omega),_,rfl,_,rfl,d,_,rfl,DPut.k (k:=kI (g y c)) h9d (by rw [sizeLine_eq]; omega),?_⟩
      rw [putK_new _ hno]
      have nrd:=hD h9r ⟨kvs,h9d,hk,hv⟩
      have nld:=hD h9l ⟨kvs,h9d,hk,hv⟩
      have h10r:=(upd_ne (H:=H9) (o:=.dK (kvs ++ [(kI (g y c),V.str (z ++ ⟨#[c]⟩))])) nrd).trans h9r
      have h10l:=(upd_ne (H:=H9) (o:=.dK (kvs ++ [(kI (g y c),V.str (z ++ ⟨#[c]⟩))])) nld).trans h9l
      have h10d:upd H9 d (.dK (kvs ++ [(kI (g y c),V.str (z ++ ⟨#[c]⟩))])) d=some (.dK (kvs ++ [(kI (g y c),V.str (z ++ ⟨#[c]⟩))])):=upd_same
      have e10:=same_put e09 hd (.dK (kvs ++ [(kI (g y c),V.str (z ++ ⟨#[c]⟩))]))
      generalize upd H9 d (.dK (kvs ++ [(kI (g y c),V.str (z ++ ⟨#[c]⟩))]))=H10 at h10r h10l h10d e10
      refine ⟨_,rfl,.inl ⟨rfl,_,SqL.of h10r⟩,_,rfl,rp,_,_,rfl,rfl,h10r,(by rw [List.length_map,List.length_drop,sizeLine_eq]; omega),?_⟩
      refine ⟨_,_,rfl,(upd_ne nlr).trans h10l,?_,⟨kvs ++ [(kI (g y c),V.str (z ++ ⟨#[c]⟩))],(upd_ne nrd.symm).trans h10d,?_,?_⟩,same_put e10 hrp0 _⟩
      ·rw [List.drop_append_of_le_length hLO,List.map_append]
       exact upd_same
      ·rw [List.map_append,List.map_append,hk]
       rfl
      ·intro q hq
       rcases List.mem_append.mp hq with a | a
       ·obtain ⟨z',h1,h2⟩:=hv q a
        exact ⟨z',h1,by rw [List.length_append]; omega⟩
       ·rw [List.mem_singleton.mp a]
        refine ⟨_,rfl,?_⟩
        rw [List.length_append]
        show (z ++ ⟨#[c]⟩).length≤O8.length+1
        have:(z ++ ⟨#[c]⟩).length=z.length+1:=str_app z c
        omega
    ·rintro σ H8 ⟨v7,v8,rfl,h8l,h8r,T8,e8⟩
     rw [List.take_of_length_le (by unfold TL; rw [List.length_map]; exact Nat.le_refl _),← hsucc] at h8r T8
     exact ⟨_,_,_,rfl,h8l,h8r,T8,e8⟩
  ·rintro σ H7 ⟨v6,v7,v8,rfl,h7l,h7r,T7,e7⟩
   have hij:i+((L.drop i).map nI).length=L.length:=by rw [List.length_map,List.length_drop]; omega
   rw [hij] at h7r T7
   have hLle:L.length≤(ordK id (TL l g) b L.length).length:=by
    rw [← hL]
    exact (ordK_pre (k:=id) (T:=TL l g) (b:=b) (i:=i) (ordK id (TL l g) b i).length (by rw [hL]; omega)).length_le
   exact ⟨_,rfl,217 - L.length,by omega,L.length,rp,_,_,_,_,rfl,hLle,rfl,hrp0,h7r,T7,e7⟩
 ·have hge:L.length≤i:=by
   rcases Nat.lt_or_ge i L.length with z | z
   ·refine absurd ?_ c1
    cases hdr:L.drop i with
    | nil=>
     have:=congrArg List.length hdr
     rw [List.length_drop] at this
     have h0:([]:List Nat).length=0:=rfl
     omega
    | cons=>rfl
   ·exact z
  obtain ⟨kvs,h5d,hk,hv⟩:=T5
  refine ⟨_,rfl,k d H5 i hd e5 ⟨kvs,h5d,by rw [hL]; exact hk,fun p hp=>let ⟨z,a,b⟩:=hv p hp; ⟨z,a,by omega⟩⟩ (by rw [hL]; exact hge)⟩
def PlT (key:Nat→List Key) (H:Hp) (xs:List V) (o:List Nat):Prop:=xs.length=o.length∧∀ (i:Nat) x c,xs[i]? = some x→o[i]? = some c→∃ a,x=.ref a∧H a=some (.tup ((key c).map kV))
theorem PlT.keep {key:Nat→List Key} {H H':Hp} {xs:List V} {o:List Nat} (h:PlT key H xs o) (k:Tk H H'):PlT key H' xs o:=⟨h.1,fun i x c a b=>let ⟨d,e,q⟩:=h.2 i x c a b; ⟨d,e,k _ _ q⟩⟩
theorem PlT.snoc {key:Nat→List Key} {H:Hp} {xs:List V} {o:List Nat} (h:PlT key H xs o) {a:Addr} {c:Nat} (ha:H a=some (.tup ((key c).map kV))):PlT key H (xs ++ [.ref a]) (o ++ [c]):=by
 refine ⟨by rw [List.length_append,List.length_append,h.1]; rfl,fun i x r' q1 q2=>?_⟩
 by_cases z:i < xs.length
 ·rw [List.getElem?_append_left z] at q1
  rw [List.getElem?_append_left (by rw [← h.1]; exact z)] at q2
  exact h.2 i x r' q1 q2
 ·rw [List.getElem?_append_right (by omega)] at q1
  rw [List.getElem?_append_right (by rw [← h.1]; omega),← h.1] at q2
  cases hi:i - xs.length with
  | zero=>
   rw [hi] at q1 q2
   cases q1
   cases q2
   exact ⟨a,rfl,ha⟩
  | succ n=>rw [hi] at q1; simp at q1
inductive spStTI (f:Addr) (fd:FuncData) (l:Str) (g:Nat→Nat→Nat) (key:Nat→List Key) (pl:Nat→Prop) (G:Hp→Prop) (vs:List V) (H:Hp) (Q:VK):Prop
 | mk (a x c:_) (h1:vs=[.ref a,.str (one c)]) (h2:H a=some (.tup ((key x).map kV))) (h3:pl x) (h4:c∈l.cps.toList) (h5:H f=some (FnO f fd)) (h6:G H) (h7:∀ r H',Same H H'→H' r=some (.tup ((key (g x c)).map kV))→Q (.ref r) H'):spStTI f fd l g key pl G vs H Q
def spStT (f:Addr) (fd:FuncData) (l:Str) (g:Nat→Nat→Nat) (key:Nat→List Key) (pl:Nat→Prop) (G:Hp→Prop):Sp:=fun vs H Q u3_=>spStTI f fd l g key pl G vs H Q
def TxDT (key:Nat→List Key) (g:Nat→Nat→Nat) (b:Nat) (l:Str) (H:Hp) (d:Addr) (o:List Nat) (n:Nat):Prop:=∃ kvs:List (List Key × V),H d=some (.dT kvs)∧kvs.map (·.1)=o.map key∧∀ (i:Nat) k v x,kvs[i]? = some (k,v)→o[i]? = some x→∃ z:Str,v=.str z∧z.length≤n∧(∀ c∈z.cps.toList,c∈l.cps.toList)∧z.cps.toList.foldl g b=x
theorem TxDT.same {key:Nat→List Key} {g:Nat→Nat→Nat} {b:Nat} {l:Str} {H H':Hp} {d:Addr} {o:List Nat} {n:Nat} (h:TxDT key g b l H d o n) (e:Same H H'):TxDT key g b l H' d o n:=let ⟨kvs,a,r⟩:=h; ⟨kvs,e _ _ a,r⟩
theorem keysT_no {key:Nat→List Key} {pl:Nat→Prop} (inj:∀ x y,pl x→pl y→key x=key y→x=y) {x:Nat} (px:pl x):∀ {kvs:List (List Key × V)} {o:List Nat},kvs.map (·.1)=o.map key→(∀ y∈o,pl y)→x∉o→valV kvs (key x)=none
 | [],_,_,_,_=>rfl
 | _ :: _,[],h,_,_=>nomatch h
 | p :: kvs,a :: o,h,ho,hx=>by
  rw [List.map_cons,List.map_cons,List.cons.injEq] at h
  rw [valV_neg (fun z=>hx (by rw [inj x a px (ho a List.mem_cons_self) (z.symm.trans h.1)]; exact List.mem_cons_self))]
  exact keysT_no inj px h.2 (fun y hy=>ho y (List.mem_cons_of_mem _ hy)) fun z=>hx (List.mem_cons_of_mem _ z)
theorem keysT_yes {key:Nat→List Key} {pl:Nat→Prop} (inj:∀ x y,pl x→pl y→key x=key y→x=y) {x:Nat} (px:pl x):∀ {kvs:List (List Key × V)} {o:List Nat},kvs.map (·.1)=o.map key→(∀ y∈o,pl y)→x∈o→∃ (i:Nat) (v:V),kvs[i]? = some (key x,v)∧o[i]? = some x∧valV kvs (key x)=some v
 | [],[],_,_,hx=>nomatch hx
 | [],_ :: _,h,_,_=>nomatch h
 | _ :: _,[],h,_,_=>nomatch h
 | p :: kvs,a :: o,h,ho,hx=>by
  rw [List.map_cons,List.map_cons,List.cons.injEq] at h
  by_cases c:a=x
  ·subst c
   refine ⟨0,p.2,?_,rfl,valV_pos h.1⟩
   rw [← h.1]
   rfl
  ·rw [valV_neg (fun z=>c (inj a x (ho a List.mem_cons_self) px (h.1.symm.trans z)))]
   obtain ⟨i,v,e1,e2,e3⟩:=keysT_yes inj px h.2 (fun y hy=>ho y (List.mem_cons_of_mem _ hy)) ((List.mem_cons.mp hx).resolve_left fun z=>c z.symm)
   exact ⟨i+1,v,by simpa using e1,by simpa using e2,e3⟩
inductive spWkTI (P:Program) (w:World) (K:PySem.W.Frag) (mg:Str→Option Value) (base:Heap) (n:Nat) (vs:List V) (H:Hp) (Q:VK):Prop
 | mk (f:Addr) (fd:FuncData) (ps:List Str) (l:Str) (a0:Addr) (b:Nat) (g:Nat→Nat→Nat) (key:Nat→List Key) (pl:Nat→Prop) (G:Hp→Prop) (h1:FnOk P w K mg base CX0 n f fd ps (spStT f fd l g key pl G)) (h2:Binds K fd ps []) (h3:(∀ H1 H2,Same H1 H2→G H1→G H2)) (h4:vs=[.str l,.ref a0,.ref f]) (h5:H a0=some (.tup ((key b).map kV))) (h6:pl b) (h7:(∀ x,pl x→x < 216∧∀ c∈l.cps.toList,pl (g x c))) (h8:(∀ x y,pl x→pl y→key x=key y→x=y)) (h9:H f=some (FnO f fd)) (h10:G H) (h11:∀ d H' N,H d=none→Same H H'→TxDT key g b l H' d (ordK id (TL l g) b N) 300→(ordK id (TL l g) b N).length≤N→Q (.ref d) H'):spWkTI P w K mg base n vs H Q
def spWkT (P:Program) (w:World) (K:PySem.W.Frag) (mg:Str→Option Value) (base:Heap) (n:Nat):Sp:=fun vs H Q u3_=>spWkTI P w K mg base n vs H Q
def wtW (l:Str) (a0 fv d:Addr) (key:Nat→List Key) (g:Nat→Nat→Nat) (b:Nat) (H:Hp) (mm:Nat) (σ:L2.St) (H5:Hp):Prop:=∃ (i:Nat) (lv:Addr) (xs:List V) (v5 v6 v7 v8:Option V),mm=217 - i∧i≤(ordK id (TL l g) b i).length∧σ=[some (.str l),some (.ref a0),some (.ref fv),some (.ref d),some (.ref lv),v5,v6,v7,v8]∧H lv=none∧H5 lv=some (.lst xs)∧PlT key H5 xs ((ordK id (TL l g) b i).drop i)∧TxDT key g b l H5 d (ordK id (TL l g) b i) (ordK id (TL l g) b i).length∧Same H H5
def wtL (l:Str) (a0 fv d:Addr) (key:Nat→List Key) (g:Nat→Nat→Nat) (b:Nat) (H:Hp) (lv rp:Addr) (i:Nat) (L:List Nat) (xs:List V) (j:Nat) (σ:L2.St) (H7:Hp):Prop:=∃ (ys:List V) (v6 v7 v8:Option V),σ=[some (.str l),some (.ref a0),some (.ref fv),some (.ref d),some (.ref lv),some (.ref rp),v6,v7,v8]∧H7 lv=some (.lst xs)∧PlT key H7 xs (L.drop i)∧H7 rp=some (.lst ys)∧PlT key H7 ys ((ordK id (TL l g) b (i+j)).drop L.length)∧TxDT key g b l H7 d (ordK id (TL l g) b (i+j)) (ordK id (TL l g) b (i+j)).length∧Same H H7
theorem ok_walkedT {n:Nat} {f:Addr} {fd:FuncData} (F:Fun K "walked" "walked" s_walked f fd) (Z:Blt mg):FnOk P w K mg base CX0 (n+1) f fd ["letters","begin","step"] (spWkT P w K mg base n):=by
 refine F.ok sc_walked (fun vs H Q E h=>?_) (fun cdv A outer s H vs Q E hr h=>?_)
 ·obtain ⟨f,fd,ps,l,a0,b,g,key,pl,G,_,_,_,rfl,_⟩:=h
  rfl
 obtain ⟨fv,fdv,ps,l,a0,b,g,key,pl,G,Fv_step,bv_step,hG,rfl,ha0,hb,hpl,inj,hf,hGH,k⟩:=h
 refine ⟨_,(pss_cons (ps_set (i:=3) sc_walked.nd (by rfl) (Or.inl (by rfl)) (pe_dispT (hu_of hr) (pv 1) pe_str)) 
   (pss_cons (ps_set (i:=4) sc_walked.nd (by rfl) (Or.inl (by rfl)) (pe_lst (pa_cons (pv 1) pa_nil))) 
   (pss_cons (ps_while PassesOwn.never (pt_truthK (K:=K) (pv 4) (fun _=>rfl)) 
    (pss_cons (ps_set (i:=5) sc_walked.nd (by rfl) (Or.inl (by rfl)) (pe_lst pa_nil)) 
    (pss_cons (ps_for PassesOwn.never (by rfl) (pi_listK (K:=K) (pv 4)) (pg_name (i:=6) sc_walked.nd (by rfl) (Or.inl (by rfl))) 
     (pss_one (ps_for PassesOwn.never (by rfl) (pi_str (pv 0)) (pg_name (i:=7) sc_walked.nd (by rfl) (Or.inl (by rfl))) 
      (pss_cons (ps_set (i:=8) sc_walked.nd (by rfl) (Or.inl (by rfl)) (pe_callV (i:=2) Fv_step (hr.mono (by omega)) bv_step (pa_cons (pv 6) (pa_cons (pv 7) pa_nil)))) 
      (pss_one (ps_if (pt_cmp (pc_dnotin (hu_of hr) (pv 8) (pv 3))) 
       (pss_cons (ps_dput (hu_of hr) (pv 3) (pv 8) (pe_op op_add_str (pe_dget (hu_of hr) (pv 3) (pv 6) (fun _ _=>rfl)) (pv 7)) rfl) 
       (pss_one (ps_expr (pe_bmK (K:=K) PySem.F.plainAttrs_list PySem.F.slot_list_append PySem.F.type_list_append mt_append (pv 5) (pa_cons (pv 8) pa_nil))))) pss_nil)))))) 
    (pss_one (ps_set (i:=4) sc_walked.nd (by rfl) (Or.inl (by rfl)) (pv 5)))))) 
   (pss_one (ps_ret (pv 3)))))),?_⟩
 refine (let zz0:TS:=_; let zz1:TS:=_; let zz2:TS:=_; let zz3:TS:=tSeq _ zz2; let zz4:TS:=(tIfS _ zz3 _); let zz5:TS:=tSeq _ zz4; let zz6:TS:=(tFor _ _ zz5); let zz7:TS:=tSeq (tFor _ _ zz6) zz1; let zz8:TS:=tSeq _ zz7; let zz9:TS:=tSeq (tWhile _ zz8) zz0; let zz10:TS:=tSeq _ zz9; (?_:tSeq _ zz10 _ _ _))
 have hT:∀ x,pl x→∀ y∈TL l g x,pl y:=fun x hx y hy=>by
  obtain ⟨c,hc,e⟩:=List.mem_map.mp hy
  rw [← e]
  exact (hpl x hx).2 c hc
 have oL:∀ i,(ordK id (TL l g) b i).length≤216:=fun i=>ordK_len hb hT (fun x hx=>(hpl x hx).1) i
 have oP:∀ i,∀ y∈ordK id (TL l g) b i,pl y:=fun i=>ordK_all hb hT i
 refine fun d hd=>⟨_,rfl,_,_,rfl,upd_same,a0,key b,rfl,(same_new hd _) _ _ ha0,?_⟩
 have h1d:upd (upd H d (.dT [])) d (.dT [(key b,V.str "")]) d=some (.dT [(key b,V.str "")]):=upd_same
 have e1:Same H (upd (upd H d (.dT [])) d (.dT [(key b,V.str "")])):=same_put (same_new hd _) hd _
 generalize upd (upd H d (.dT [])) d (.dT [(key b,V.str "")])=H1 at h1d e1
 refine ⟨_,rfl,(by show 1≤sizeLine; decide),fun lv hlv=>?_⟩
 have s2:=same_new hlv (.lst [V.ref a0])
 have h2l:upd H1 lv (.lst [V.ref a0]) lv=some (.lst [V.ref a0]):=upd_same
 generalize upd H1 lv (.lst [V.ref a0])=H2 at s2 h2l
 refine ⟨wtW l a0 fv d key g b H,
  ⟨_,0,lv,_,none,none,none,none,rfl,Nat.zero_le _,rfl,none_of e1 hlv,h2l,⟨rfl,fun i x c q1 q2=>?_⟩,⟨_,s2 _ _ h1d,rfl,fun i k v x q1 q2=>?_⟩,e1.trans s2⟩,?_⟩
 ·cases i with
  | zero=>cases q1; cases q2; exact ⟨a0,rfl,s2 _ _ (e1 _ _ ha0)⟩
  | succ i=>simp at q1
 ·cases i with
  | zero=>
   cases q1
   cases q2
   have e0:(Str.ofString "").cps.toList=[]:=by decide +kernel
   refine ⟨_,rfl,Nat.zero_le _,?_,?_⟩
   ·rw [e0]
    exact fun c hc=>(List.not_mem_nil hc).elim
   ·rw [e0]
    rfl
  | succ i=>simp at q1
 clear h2l s2 hlv lv h1d e1
 rintro mm σ H5 ⟨i,lv,xs,v5,v6,v7,v8,rfl,hi,rfl,hlv0,h5l,P5,T5,e5⟩
 have hD:∀ {H:Hp} {a:Addr} {xs:List V} {o:List Nat} {n:Nat},H a=some (.lst xs)→TxDT key g b l H d o n→a≠d:=fun ha ⟨_,hk,_⟩=>ne_of ha hk fun z=>nomatch z
 generalize hL:ordK id (TL l g) b i=L at hi P5 T5
 have hLl:=oL i
 rw [hL] at hLl
 have hxl:=P5.1
 rw [List.length_drop] at hxl
 refine ⟨_,rfl,_,.inl ⟨_,SqL.of h5l,rfl⟩,?_⟩
 refine ite2 (fun c1=>?_) (fun c1=>?_)
 ·have hlt:i < L.length:=by
   rcases Nat.lt_or_ge i L.length with z | z
   ·exact z
   ·rw [List.eq_nil_of_length_eq_zero (show xs.length=0 by omega)] at c1
    cases c1
  refine ⟨fun σ' H'=>∃ m',m' < 217 - i∧_,fun _ _ z=>z,?_⟩
  refine ⟨(by show 0≤sizeLine; decide),fun rp hrp=>?_⟩
  have s6:=same_new hrp (.lst [])
  have h6r:upd H5 rp (.lst []) rp=some (.lst []):=upd_same
  have hrp0:=none_of e5 hrp
  have nlr:lv≠rp:=ne_of_none h5l hrp
  generalize upd H5 rp (.lst [])=H6 at s6 h6r
  refine ⟨_,rfl,lv,rfl,⟨_,SqL.of (s6 _ _ h5l)⟩,?_⟩
  refine for_list (K:=K) (a:=lv) (xs:=xs) (wtL l a0 fv d key g b H lv rp i L xs)
   ⟨[],v6,v7,v8,rfl,s6 _ _ h5l,P5.keep (Tk.same s6),h6r,by rw [Nat.add_zero,hL,List.drop_length]; exact ⟨rfl,fun i x c q=>by simp at q⟩,by rw [Nat.add_zero,hL]; exact T5.same s6,e5.trans s6⟩ (fun j σ H7 _ h=>?_) ?_ ?_
  ·obtain ⟨_,_,_,_,_,h7,_⟩:=h
   exact SqL.of h7
  ·rintro j x σ H7 hx ⟨ys,v6,v7,v8,rfl,h7l,P7,h7r,Y7,T7,e7⟩
   have hjl:=(List.getElem?_eq_some_iff.mp hx).1
   have hxx:L[i+j]? = some (L[i+j]'(by omega)):=List.getElem?_eq_getElem (by omega)
   generalize L[i+j]'(by omega)=y at hxx
   obtain ⟨ya,rfl,hya⟩:=P7.2 j x y hx (by rw [List.getElem?_drop]; exact hxx)
   have hoj:(ordK id (TL l g) b (i+j))[i+j]? = some y:=by
    obtain ⟨t,e⟩:=ordK_pre (k:=id) (T:=TL l g) (b:=b) (i:=i) (i+j) (by omega)
    rw [← e,hL,List.getElem?_append_left (List.getElem?_eq_some_iff.mp hxx).1]
    exact hxx
   have hLle:L.length≤(ordK id (TL l g) b (i+j)).length:=by
    rw [← hL]
    exact (ordK_pre (k:=id) (T:=TL l g) (b:=b) (i:=i) (i+j) (by omega)).length_le
   have hsucc:=ordK_succ hoj
   have hply:=oP (i+j) y (List.mem_of_getElem? hoj)
   have hnd:=ordK_nd (k:=id) (T:=TL l g) (b:=b) (i+j)
   generalize hO:ordK id (TL l g) b (i+j)=O at hoj hLle hsucc hnd Y7 T7
   have hall:∀ z∈O,pl z:=by rw [← hO]; exact oP (i+j)
   refine ⟨_,rfl,l,rfl,?_⟩
   refine for_str (cs:=l.cps.toList) (fun m σ H8=>∃ (ys:List V) (v7 v8:Option V),σ=[some (.str l),some (.ref a0),some (.ref fv),some (.ref d),some (.ref lv),some (.ref rp),some (.ref ya),v7,v8]∧H8 lv=some (.lst xs)∧PlT key H8 xs (L.drop i)∧H8 rp=some (.lst ys)∧PlT key H8 ys ((((TL l g y).take m).foldl (addK id) O).drop L.length)∧TxDT key g b l H8 d (((TL l g y).take m).foldl (addK id) O) (((TL l g y).take m).foldl (addK id) O).length∧Same H H8∧H8 ya=some (.tup ((key y).map kV)))
    ⟨ys,v7,v8,rfl,h7l,P7,h7r,Y7,T7,e7,hya⟩ ?_ ?_
   ·rintro m c σ H8 hc ⟨ys,v7,v8,rfl,h8l,P8,h8r,Y8,T8,e8,h8y⟩
    have hcl:c∈l.cps.toList:=List.mem_of_getElem? hc
    have hTm:(TL l g y)[m]? = some (g y c):=by unfold TL; rw [List.getElem?_map,hc]; rfl
    have htk:((TL l g y).take (m+1)).foldl (addK id) O=addK id (((TL l g y).take m).foldl (addK id) O) (g y c):=by
     rw [List.take_add_one,hTm,List.foldl_append]
     rfl
    have hpre:=fold_pre (k:=id) ((TL l g y).take m) O
    have hnd8:=fold_nd (k:=id) ((TL l g y).take m) O hnd
    have hal8:=fold_all (k:=id) (P:=pl) ((TL l g y).take m) O hall fun z hz=>hT y hply z (List.mem_of_mem_take hz)
    have hy8:y∈((TL l g y).take m).foldl (addK id) O:=hpre.subset (List.mem_of_getElem? hoj)
    have hLO:L.length≤(((TL l g y).take m).foldl (addK id) O).length:=Nat.le_trans hLle hpre.length_le
    rw [htk]
    generalize ((TL l g y).take m).foldl (addK id) O=O8 at Y8 T8 hpre hnd8 hal8 hy8 hLO
    have hO8:O8.length≤216:=by
     have:=nodup_lt 216 _ hnd8 fun z hz=>by
      rw [List.map_id] at hz
      exact (hpl z (hal8 z hz)).1
     rwa [List.length_map] at this
    have pgc:=(hpl y hply).2 c hcl
    refine ⟨rfl,e8 _ _ hf,_,rfl,_,rfl,e8 _ _ hf,ya,y,c,rfl,h8y,hply,hcl,e8 _ _ hf,hG _ _ e8 hGH,fun r H9 e9 h9a=>?_⟩
    have T9:=T8.same e9
    have P9:=P8.keep (Tk.same e9)
    have Y9:=Y8.keep (Tk.same e9)
    have h9l:=e9 _ _ h8l
    have h9r:=e9 _ _ h8r
    have h9y:=e9 _ _ h8y
    have e09:=e8.trans e9
    obtain ⟨kvs,h9d,hk,hv⟩:=T9
    have hkl:kvs.length=O8.length:=by
     have:=congrArg List.length hk
     rwa [List.length_map,List.length_map] at this
    have hyl:=Y9.1
    rw [List.length_drop] at hyl
    refine ⟨_,rfl,_,rfl,d,_,rfl,DGet.t (k:=key (g y c)) h9d h9a,_,rfl,?_⟩
    rw [addK_id]
    by_cases hin:g y c∈O8
    ·obtain ⟨_,v,_,_,hp⟩:=keysT_yes inj pgc hk hal8 hin
     rw [hp,if_pos hin]
     exact ifN rfl ⟨_,_,_,rfl,h9l,P9,h9r,Y9,⟨kvs,h9d,hk,hv⟩,e09,h9y⟩
    ·have hno:=keysT_no inj pgc hk hal8 hin
     rw [hno,if_neg hin]
     obtain ⟨iy,v,g1,g2,hp⟩:=keysT_yes inj hply hk hal8 hy8
     obtain ⟨z,rfl,hzl,hzc,hzw⟩:=hv iy _ _ _ g1 g2
     refine ifY rfl ⟨_,rfl,_,rfl,d,_,rfl,hp▸DGet.t (k:=key y) h9d h9y,_,rfl,z,_,rfl,rfl,(by show z.length+1≤sizeLine; rw [sizeLine_eq]; omega),_,rfl,_,rfl,d,_,rfl,DPut.t (k:=key (g y c)) h9d h9a (by rw [sizeLine_eq]; omega),?_⟩
     rw [putK_new _ hno]
     have nrd:=hD h9r ⟨kvs,h9d,hk,hv⟩
     have nld:=hD h9l ⟨kvs,h9d,hk,hv⟩
     have tkd:=Tk.dct h9d (.dT (kvs ++ [(key (g y c),V.str (z ++ ⟨#[c]⟩))]))
     have h10r:=(upd_ne (H:=H9) (o:=.dT (kvs ++ [(key (g y c),V.str (z ++ ⟨#[c]⟩))])) nrd).trans h9r
     have h10l:=(upd_ne (H:=H9) (o:=.dT (kvs ++ [(key (g y c),V.str (z ++ ⟨#[c]⟩))])) nld).trans h9l
     have h10d:upd H9 d (.dT (kvs ++ [(key (g y c),V.str (z ++ ⟨#[c]⟩))])) d=some (.dT (kvs ++ [(key (g y c),V.str (z ++ ⟨#[c]⟩))])):=upd_same
     have e10:=same_put e09 hd (.dT (kvs ++ [(key (g y c),V.str (z ++ ⟨#[c]⟩))]))
     have h10a:=tkd _ _ h9a
     have P10:=P9.keep tkd
     have Y10:=Y9.keep tkd
     have h10y:=tkd _ _ h9y
     generalize upd H9 d (.dT (kvs ++ [(key (g y c),V.str (z ++ ⟨#[c]⟩))]))=H10 at h10r h10l h10d e10 h10a P10 Y10 h10y
     have tkr:=Tk.lst h10r (.lst (ys ++ [V.ref r]))
     refine ⟨_,rfl,.inl ⟨rfl,_,SqL.of h10r⟩,_,rfl,rp,_,_,rfl,rfl,h10r,(by rw [sizeLine_eq]; omega),?_⟩
     refine ⟨ys ++ [V.ref r],_,_,rfl,(upd_ne nlr).trans h10l,P10.keep tkr,upd_same,?_,⟨kvs ++ [(key (g y c),V.str (z ++ ⟨#[c]⟩))],(upd_ne nrd.symm).trans h10d,?_,?_⟩,same_put e10 hrp0 _,tkr _ _ h10y⟩
     ·rw [List.drop_append_of_le_length hLO]
      exact (Y10.keep tkr).snoc (tkr _ _ h10a)
     ·rw [List.map_append,List.map_append,hk]
      rfl
     ·intro iq kq vq xq a1 a2
      rcases Nat.lt_or_ge iq kvs.length with lt | ge
      ·rw [List.getElem?_append_left lt] at a1
       rw [List.getElem?_append_left (by omega)] at a2
       obtain ⟨z',b1,b2,b3,b4⟩:=hv iq kq vq xq a1 a2
       exact ⟨z',b1,by rw [List.length_append]; omega,b3,b4⟩
      ·rw [List.getElem?_append_right ge] at a1
       rw [List.getElem?_append_right (by omega),← hkl] at a2
       cases hq:iq - kvs.length with
       | zero=>
        rw [hq] at a1 a2
        cases a1
        cases a2
        have hcs:(z ++ (⟨#[c]⟩:Str)).cps.toList=z.cps.toList ++ [c]:=Array.toList_append ..
        refine ⟨_,rfl,?_,fun d hd=>?_,?_⟩
        ·rw [List.length_append,str_app z c]
         show _≤O8.length+1
         omega
        ·rw [hcs] at hd
         rcases List.mem_append.mp hd with q | q
         ·exact hzc d q
         ·rw [List.mem_singleton.mp q]; exact hcl
        ·rw [hcs,List.foldl_append,hzw]
         rfl
       | succ n=>rw [hq] at a1; simp at a1
   ·rintro σ H8 ⟨ys,v7,v8,rfl,h8l,P8,h8r,Y8,T8,e8,_⟩
    rw [List.take_of_length_le (by unfold TL; rw [List.length_map]; exact Nat.le_refl _),← hsucc] at Y8 T8
    exact ⟨_,_,_,_,rfl,h8l,P8,h8r,Y8,T8,e8⟩
  ·rintro σ H7 ⟨ys,v6,v7,v8,rfl,h7l,P7,h7r,Y7,T7,e7⟩
   have hij:i+xs.length=L.length:=by omega
   rw [hij] at Y7 T7
   have hLle:L.length≤(ordK id (TL l g) b L.length).length:=by
    rw [← hL]
    exact (ordK_pre (k:=id) (T:=TL l g) (b:=b) (i:=i) (ordK id (TL l g) b i).length (by rw [hL]; omega)).length_le
   exact ⟨_,rfl,217 - L.length,by omega,L.length,rp,ys,_,_,_,_,rfl,hLle,rfl,hrp0,h7r,Y7,T7,e7⟩
 ·have hge:L.length≤i:=by
   rcases Nat.lt_or_ge i L.length with z | z
   ·refine absurd ?_ c1
    cases hdr:xs with
    | nil=>
     rw [hdr] at hxl
     have h0:([]:List V).length=0:=rfl
     omega
    | cons=>rfl
   ·exact z
  obtain ⟨kvs,h5d,hk,hv⟩:=T5
  refine ⟨_,rfl,k d H5 i hd e5 ⟨kvs,h5d,by rw [hL]; exact hk,fun i' k v x q1 q2=>let ⟨z,a,b,r⟩:=hv i' k v x q1 (by rw [← hL]; exact q2); ⟨z,a,by omega,r⟩⟩ (by rw [hL]; exact hge)⟩
inductive spEdI (f:Addr) (fd:FuncData) (pl:Nat→Prop) (e:Nat→Bool) (G:Hp→Prop) (vs:List V) (H:Hp) (Q:VK):Prop
 | mk (x:_) (h1:vs=[nI x]) (h2:pl x) (h3:H f=some (FnO f fd)) (h4:G H) (h5:∀ H',Same H H'→Q (.bl (e x)) H'):spEdI f fd pl e G vs H Q
def spEd (f:Addr) (fd:FuncData) (pl:Nat→Prop) (e:Nat→Bool) (G:Hp→Prop):Sp:=fun vs H Q u3_=>spEdI f fd pl e G vs H Q
def MLay (H:Hp) (m:Addr) (l:Str) (b:Nat) (es:List Nat) (st:List (List Nat)):Prop:=∃ (e s:Addr) (ras:List Addr),H m=some (.tup [.str l,nI b,.ref e,.ref s])∧H e=some (.tup (es.map nI))∧H s=some (.tup (ras.map V.ref))∧ras.length=st.length∧∀ (i:Nat) a r,ras[i]? = some a→st[i]? = some r→H a=some (.tup (r.map nI))
theorem RowsN.ras {H:Hp}:∀ {xs:List V} {rs:List (List Nat)},RowsN H xs rs→∃ ras:List Addr,xs=ras.map V.ref∧ras.length=rs.length∧∀ (i:Nat) a r,ras[i]? = some a→rs[i]? = some r→H a=some (.tup (r.map nI))
 | [],[],_=>⟨[],rfl,rfl,fun i a r h=>by simp at h⟩
 | [],_ :: _,h=>nomatch h.1
 | _ :: _,[],h=>nomatch h.1
 | x :: xs,r :: rs,h=>by
  obtain ⟨c,e,q⟩:=h.2 0 x r rfl rfl
  obtain ⟨ras,e1,e2,e3⟩:=RowsN.ras (H:=H) (xs:=xs) (rs:=rs) ⟨by simpa using h.1,fun i y t a b=>h.2 (i+1) y t (by simpa using a) (by simpa using b)⟩
  refine ⟨c :: ras,by rw [e,e1]; rfl,by rw [List.length_cons,List.length_cons,e2],fun i a t p1 p2=>?_⟩
  cases i with
  | zero=>cases p1; cases p2; exact q
  | succ i=>exact e3 i a t (by simpa using p1) (by simpa using p2)
def nbK (o:List Nat) (i:Nat):List (Key × V):=(List.range i).map fun j=>(kI (o.getD j 0),nI j)
theorem nbK_keys (o:List Nat):(nbK o o.length).map (·.1)=o.map kI:=by
 unfold nbK
 rw [List.map_map]
 refine List.ext_getElem? fun j=>?_
 rw [List.getElem?_map,List.getElem?_map]
 rcases Nat.lt_or_ge j o.length with z | z
 ·rw [List.getElem?_range z,List.getElem?_eq_getElem z]
  show some (kI (o.getD j 0))=some (kI o[j])
  rw [List.getD_eq_getElem?_getD,List.getElem?_eq_getElem z]
  rfl
 ·rw [List.getElem?_eq_none (by rw [List.length_range]; exact z),List.getElem?_eq_none z]
  rfl
theorem nbK_val {o:List Nat} (nd:o.Nodup) {x:Nat} (hx:x∈o):valV (nbK o o.length) (kI x)=some (nI (o.idxOf x)):=by
 obtain ⟨p,hp,e,ek⟩:=keys_yes (nbK_keys o) hx
 rw [e]
 obtain ⟨j,hj,rfl⟩:=List.mem_map.mp hp
 have hj':=List.mem_range.mp hj
 have ex:o.getD j 0=x:=kI_inj ek
 rw [List.getD_eq_getElem?_getD,List.getElem?_eq_getElem hj'] at ex
 have ex':o[j]=x:=ex
 rw [← ex',List.Nodup.idxOf_getElem nd j hj']
theorem nbK_new {o:List Nat} (nd:o.Nodup) {i:Nat} (hi:i < o.length):valV (nbK o i) (kI (o.getD i 0))=none:=by
 have hk:(nbK o i).map (·.1)=(o.take i).map kI:=by
  unfold nbK
  rw [List.map_map]
  refine List.ext_getElem? fun j=>?_
  rw [List.getElem?_map,List.getElem?_map]
  rcases Nat.lt_or_ge j i with z | z
  ·rw [List.getElem?_range z,List.getElem?_take_of_lt z,List.getElem?_eq_getElem (by omega)]
   show some (kI (o.getD j 0))=some (kI o[j])
   rw [List.getD_eq_getElem?_getD,List.getElem?_eq_getElem (by omega)]
   rfl
  ·rw [List.getElem?_eq_none (by rw [List.length_range]; exact z),List.getElem?_eq_none (by rw [List.length_take]; omega)]
   rfl
 refine keys_no hk fun z=>?_
 rw [List.getD_eq_getElem?_getD,List.getElem?_eq_getElem hi] at z
 obtain ⟨j,hj,e⟩:=List.getElem_of_mem z
 rw [List.length_take] at hj
 rw [List.getElem_take] at e
 have e':o[j]'(by omega)=o[i]:=e
 have h1:=List.Nodup.idxOf_getElem nd j (by omega)
 have h2:=List.Nodup.idxOf_getElem nd i hi
 rw [e',h2] at h1
 omega
inductive spMFI (P:Program) (w:World) (K:PySem.W.Frag) (mg:Str→Option Value) (base:Heap) (n:Nat) (vs:List V) (H:Hp) (Q:VK):Prop
 | mk (f:Addr) (fd:FuncData) (ps:List Str) (f2:Addr) (fd2:FuncData) (ps2:List Str) (l:Str) (b:Nat) (g:Nat→Nat→Nat) (e:Nat→Bool) (pl:Nat→Prop) (G:Hp→Prop) (h1:FnOk P w K mg base CX0 n f fd ps (spSt f fd l g pl G)) (h2:Binds K fd ps []) (h3:FnOk P w K mg base CX0 n f2 fd2 ps2 (spEd f2 fd2 pl e G)) (h4:Binds K fd2 ps2 []) (h5:(∀ H1 H2,Same H1 H2→G H1→G H2)) (h6:vs=[.str l,nI b,.ref f,.ref f2]) (h7:pl b) (h8:(∀ x,pl x→x < 216∧∀ c∈l.cps.toList,pl (g x c))) (h9:l.length≤3) (h10:H f=some (FnO f fd)) (h11:H f2=some (FnO f2 fd2)) (h12:G H) (h13:∀ m H' N,Same H H'→(ordK id (TL l g) b N).length≤N→MLay H' m l 0 (endsK (ordK id (TL l g) b N) e) (rowsK id (TL l g) (ordK id (TL l g) b N))→Q (.ref m) H'):spMFI P w K mg base n vs H Q
def spMF (P:Program) (w:World) (K:PySem.W.Frag) (mg:Str→Option Value) (base:Heap) (n:Nat):Sp:=fun vs H Q u3_=>spMFI P w K mg base n vs H Q
def mfD (l:Str) (b:Nat) (fv fe nd ep rp:Addr) (v5:Option V) (g:Nat→Nat→Nat) (o:List Nat) (e:Nat→Bool) (H5:Hp) (i:Nat) (σ:L2.St) (H10:Hp):Prop:=∃ (v6:Option V) (ys:List V),σ=[some (.str l),some (nI b),some (.ref fv),some (.ref fe),some (.ref nd),v5,v6,some (.ref ep),some (.ref rp)]∧H10 rp=some (.lst ys)∧RowsN H10 ys ((rowsK id (TL l g) o).take i)∧H10 ep=some (.tup ((endsK o e).map nI))∧Same H5 H10
theorem ok_machine_from {n:Nat} {f:Addr} {fd:FuncData} (F:Fun K "machine_from" "machine_from" s_machine_from f fd) (Z:Blt mg) (C_walked:Cal P w K mg base "walked" (n+1) ["letters","begin","step"] (spWk P w K mg base n)):FnOk P w K mg base CX0 (n+2) f fd ["letters","begin","step","is_end"] (spMF P w K mg base n):=by
 refine F.ok sc_machine_from (fun vs H Q E h=>?_) (fun cdv A outer s H vs Q E hr h=>?_)
 ·obtain ⟨f,fd,ps,f2,fd2,ps2,l,b,g,e,pl,G,_,_,_,_,_,rfl,_⟩:=h
  rfl
 obtain ⟨fv,fdv,ps,fe,fde,ps2,l,b,g,e,pl,G,Fv_step,bv_step,Fv_is_end,bv_is_end,hG,rfl,hb,hpl,hl,hf,hf2,hGH,k⟩:=h
 refine ⟨_,(pss_cons (ps_set (i:=4) sc_machine_from.nd (by rfl) (Or.inr (by rfl)) pe_dnewK) 
   (pss_cons (ps_for PassesOwn.never (by rfl) (pi_enumK (by rfl) Z.enumerate (pe_c C_walked (hr.mono (by omega)) (pa_cons (pv 0) (pa_cons (pv 1) (pa_cons (pv 2) pa_nil))))) (pg_tupK (K:=K) (n:=2) (by rfl) (pgs_cons (pg_name (i:=5) sc_machine_from.nd (by rfl) (Or.inl (by rfl))) (pgs_cons (pg_name (i:=6) sc_machine_from.nd (by rfl) (Or.inr (by rfl))) pgs_nil))) 
    (pss_one (ps_dput (hu_of hr) (pv 4) (pv 6) (pv 5) rfl))) 
   (pss_cons (ps_set (i:=7) sc_machine_from.nd (by rfl) (Or.inl (by rfl)) (pe_callTy (call_tupK (K:=K)) (by rfl) Z.tuple bt_tuple (pa_cons (pe_comp (sc:=defScope s_machine_from) (Nm:=["letters","begin","step","is_end","numbers","number","place","ends","steps"]) (own:=["place"]) (fr:=[3,4]) ⟨rfl,by decide +kernel,by decide +kernel,by decide +kernel,by decide +kernel⟩ (by rfl) (gfr_name (by decide)) (pi_dict (pv 4)) (fun d=>(pg_name (i:=0) nd_machine_from_0 (by rfl) (Or.inl (by rfl)))) (fun d=>(pts_one (pt_truthK (K:=K) (pe_callV (i:=1) Fv_is_end (hr.mono (by omega)) bv_is_end (pa_cons (pv 0) pa_nil)) (fun _=>rfl)))) (fun d=>(pe_dget (hu_of hr) (pv 2) (pv 0) (fun _ _=>rfl)))) pa_nil))) 
   (pss_cons (ps_set (i:=8) sc_machine_from.nd (by rfl) (Or.inl (by rfl)) (pe_lst pa_nil)) 
   (pss_cons (ps_for PassesOwn.never (by rfl) (pi_dict (pv 4)) (pg_name (i:=6) sc_machine_from.nd (by rfl) (Or.inr (by rfl))) 
    (pss_one (ps_expr (pe_bmK (K:=K) PySem.F.plainAttrs_list PySem.F.slot_list_append PySem.F.type_list_append mt_append (pv 8) (pa_cons (pe_callTy (call_tupK (K:=K)) (by rfl) Z.tuple bt_tuple (pa_cons (pe_comp (sc:=defScope s_machine_from) (Nm:=["letters","begin","step","is_end","numbers","number","place","ends","steps"]) (own:=["letter"]) (fr:=[2,4,6]) ⟨rfl,by decide +kernel,by decide +kernel,by decide +kernel,by decide +kernel⟩ (by rfl) (gfr_name (by decide)) (pi_str (pv 0)) (fun d=>(pg_name (i:=0) nd_machine_from_1 (by rfl) (Or.inl (by rfl)))) (fun d=>pts_nil) (fun d=>(pe_dget (hu_of hr) (pv 2) (pe_callV (i:=1) Fv_step (hr.mono (by omega)) bv_step (pa_cons (pv 3) (pa_cons (pv 0) pa_nil))) (fun _ _=>rfl)))) pa_nil)) pa_nil))))) 
   (pss_one (ps_ret (pe_tup (pa_cons (pv 0) (pa_cons pe_int (pa_cons (pv 7) (pa_cons (pe_callTy (call_tupK (K:=K)) (by rfl) Z.tuple bt_tuple (pa_cons (pv 8) pa_nil)) pa_nil)))))))))))),?_⟩
 refine (let zz0:TS:=_; let zz1:TS:=tSeq _ zz0; let zz2:TS:=tSeq _ zz1; let zz3:TS:=tSeq _ zz2; let zz4:TS:=tSeq _ zz3; (?_:tSeq _ zz4 _ _ _))
 have hT:∀ x,pl x→∀ y∈TL l g x,pl y:=fun x hx y hy=>by
  obtain ⟨c,hc,e⟩:=List.mem_map.mp hy
  rw [← e]
  exact (hpl x hx).2 c hc
 refine fun nd hnd=>?_
 have s1:=same_new hnd (.dK [])
 have h1n:upd H nd (.dK []) nd=some (.dK []):=upd_same
 generalize upd H nd (.dK [])=H1 at s1 h1n
 refine ⟨_,rfl,_,rfl,_,rfl,fv,fdv,ps,l,b,g,pl,G,Fv_step,bv_step,hG,rfl,hb,hpl,s1 _ _ hf,hG _ _ s1 hGH,fun d H2 N hd e2 T2 hN=>?_⟩
 have oL:(ordK id (TL l g) b N).length≤216:=ordK_len hb hT (fun x hx=>(hpl x hx).1) N
 have oP:∀ y∈ordK id (TL l g) b N,pl y:=ordK_all hb hT N
 have oN:(ordK id (TL l g) b N).Nodup:=by
  have:=ordK_nd (k:=id) (T:=TL l g) (b:=b) N
  rwa [List.map_id] at this
 have oM:∀ x∈ordK id (TL l g) b N,∀ c∈l.cps.toList,g x c∈ordK id (TL l g) b N:=fun x hx c hc=>by
  obtain ⟨j,hj,ej⟩:=List.getElem_of_mem hx
  have:=ordK_met (k:=id) (T:=TL l g) (b:=b) (n:=N) (j:=j) (x:=x) (y:=g x c) (by rw [List.getElem?_eq_getElem hj,ej]) (by omega) (List.mem_map.mpr ⟨c,hc,rfl⟩)
  rw [List.map_id] at this
  exact this
 replace k:=fun m H'=>k m H' N
 generalize ordK id (TL l g) b N=o at k hN T2 oL oP oN oM
 have hd0:=none_of s1 hd
 obtain ⟨kvs,h2d,hkk,hkv⟩:=T2
 have nnd:nd≠d:=ne_of_none h1n hd
 refine ⟨d,kvs,rfl,.inl ⟨h2d,fun ob=>?_⟩⟩
 have h3n:upd H2 d (.frz ob (.dK kvs)) nd=some (.dK []):=(upd_ne nnd).trans (e2 _ _ h1n)
 have e3:Same H (upd H2 d (.frz ob (.dK kvs))):=same_put (s1.trans e2) hd0 _
 have h3d:upd H2 d (.frz ob (.dK kvs)) d=some (.frz ob (.dK kvs)):=upd_same
 generalize upd H2 d (.frz ob (.dK kvs))=H3 at h3n e3 h3d
 have hkx:(kvs.map fun p=>kV p.1)=o.map nI:=by
  have:(kvs.map fun p=>kV p.1)=(kvs.map (·.1)).map kV:=by rw [List.map_map]; rfl
  rw [this,hkk,List.map_map]
  rfl
 refine for_enum (Sq:=fun H xs=>H d=some (.frz ob (.dK kvs))∧xs=kvs.map fun p=>kV p.1) (xs:=o.map nI) (fun i σ H4=>∃ (v5 v6:Option V),σ=[some (.str l),some (nI b),some (.ref fv),some (.ref fe),some (.ref nd),v5,v6,none,none]∧H4 nd=some (.dK (nbK o i))∧H4 d=some (.frz ob (.dK kvs))∧Same H H4)
  ⟨none,none,rfl,h3n,h3d,e3⟩ (fun i σ H4 _ h=>?_) ?_ ?_
 ·obtain ⟨_,_,_,_,h4,_⟩:=h
  exact ⟨h4,hkx.symm⟩
 ·rintro i x σ H4 p hx ⟨v5,v6,rfl,h4n,h4d,e4⟩ hp
  rw [List.getElem?_map] at hx
  cases hxx:o[i]? with
  | none=>rw [hxx] at hx; cases hx
  | some y=>
   rw [hxx] at hx
   cases hx
   have hil:=(List.getElem?_eq_some_iff.mp hxx).1
   have hyD:o.getD i 0=y:=by rw [List.getD_eq_getElem?_getD,hxx]; rfl
   have s5:=same_new hp (.tup [V.int (i:Int),nI y])
   have h5p:upd H4 p (.tup [V.int (i:Int),nI y]) p=some (.tup [V.int (i:Int),nI y]):=upd_same
   generalize upd H4 p (.tup [V.int (i:Int),nI y])=H5 at s5 h5p
   have hnew:=nbK_new oN hil
   rw [hyD] at hnew
   refine ⟨p,_,rfl,SqT.of h5p,rfl,_,_,rfl,_,_,rfl,rfl,?_⟩
   refine ⟨_,rfl,_,rfl,_,rfl,nd,_,rfl,DPut.k (k:=kI y) (s5 _ _ h4n) (by unfold nbK; rw [List.length_map,List.length_range,sizeLine_eq]; omega),?_⟩
   rw [putK_new _ hnew]
   refine ⟨_,_,rfl,?_,(upd_ne nnd.symm).trans (s5 _ _ h4d),same_put (e4.trans s5) hnd _⟩
   refine upd_same.trans ?_
   unfold nbK
   rw [List.range_succ,List.map_append]
   show _=some (HO.dK (_ ++ [(kI (o.getD i 0),nI i)]))
   rw [hyD]
   rfl
 rintro σ H4 ⟨v5,v6,rfl,h4n,_,e4⟩
 rw [List.length_map] at h4n
 have kat:∀ {i:Nat} {q:Key} {v:V},(nbK o o.length)[i]? = some (q,v)→∃ y,o[i]? = some y∧q=kI y:=fun {i q v} h=>by
  have h1:((nbK o o.length).map (·.1))[i]? = some q:=by rw [List.getElem?_map,h]; rfl
  rw [nbK_keys,List.getElem?_map] at h1
  cases hc:o[i]? with
  | none=>rw [hc] at h1; cases h1
  | some y=>rw [hc] at h1; exact ⟨y,rfl,(Option.some.inj h1).symm⟩
 have nbl:(nbK o o.length).length=o.length:=by unfold nbK; rw [List.length_map,List.length_range]
 refine ⟨_,rfl,nd,_,rfl,.inl ⟨h4n,fun on=>?_⟩⟩
 have e5:Same H (upd H4 nd (.frz on (.dK (nbK o o.length)))):=same_put e4 hnd _
 have h5n:upd H4 nd (.frz on (.dK (nbK o o.length))) nd=some (.frz on (.dK (nbK o o.length))):=upd_same
 generalize upd H4 nd (.frz on (.dK (nbK o o.length)))=H5 at e5 h5n
 have dget:∀ {H6:Hp} {x:Nat},Same H5 H6→x∈o→DGet H6 nd (nI x) (some (nI (o.idxOf x))):=fun {H6 x} e6 hx=>by
  rw [← nbK_val oN hx]
  exact .inl ⟨_,kI x,.inr ⟨on,e6 _ _ h5n⟩,rfl,rfl⟩
 refine comp_dict (a:=nd) (o:=on) (kvs:=nbK o o.length) (fun i acc H6=>acc=(((List.range i).filter fun j=>e (o.getD j 0)).map nI)∧Same H5 H6) (small1000 (by omega)) ⟨rfl,Same.refl _⟩
  (fun i acc H6 q=>by rw [q.1,List.length_map]; exact Nat.le_trans (List.length_filter_le _ _) (by rw [List.length_range]; exact Nat.le_refl _)) (fun i acc H6 q=>q.2 _ _ h5n) (fun i acc H6 q v hq p=>?_) (fun acc H6 p y hy=>?_)
 ·obtain ⟨rfl,e6⟩:=p
  obtain ⟨y,hy,rfl⟩:=kat hq
  have hyD:o.getD i 0=y:=by rw [List.getD_eq_getElem?_getD,hy]; rfl
  have hym:=List.mem_of_getElem? hy
  have e06:=e5.trans e6
  refine ⟨rfl,e06 _ _ hf2,_,rfl,e06 _ _ hf2,y,rfl,oP y hym,e06 _ _ hf2,hG _ _ e06 hGH,fun H7 e7=>⟨_,rfl,?_⟩⟩
  have hfl:((List.range (i+1)).filter fun j=>e (o.getD j 0))=((List.range i).filter fun j=>e (o.getD j 0)) ++ if e y=true then [i] else []:=by
   rw [List.range_succ,List.filter_append,List.filter_cons,hyD]
   rfl
  rw [hfl,List.map_append]
  refine ite2 (fun c=>?_) (fun c=>?_)
  ·rw [if_pos c]
   refine ⟨_,rfl,_,rfl,nd,_,rfl,dget (e6.trans e7) hym,?_,e6.trans e7⟩
   have:o.idxOf y=i:=by
    have h1:=List.Nodup.idxOf_getElem oN i (List.getElem?_eq_some_iff.mp hy).1
    rw [(List.getElem?_eq_some_iff.mp hy).2] at h1
    exact h1
   rw [this]
   rfl
  ·rw [if_neg c]
   exact ⟨by rw [List.map_nil,List.append_nil],e6.trans e7⟩
 obtain ⟨rfl,e6⟩:=p
 rw [nbl]
 have t7:=same_new hy (.lst (((List.range o.length).filter fun j=>e (o.getD j 0)).map nI))
 have h7y:upd H6 y (.lst (((List.range o.length).filter fun j=>e (o.getD j 0)).map nI)) y=some (.lst (((List.range o.length).filter fun j=>e (o.getD j 0)).map nI)):=upd_same
 generalize upd H6 y (.lst (((List.range o.length).filter fun j=>e (o.getD j 0)).map nI))=H7 at t7 h7y
 refine ⟨y,_,rfl,.inl ⟨SqL.of h7y,fun ep hep=>?_⟩⟩
 have t8:=same_new hep (.tup (((List.range o.length).filter fun j=>e (o.getD j 0)).map nI))
 have h8e:upd H7 ep (.tup (((List.range o.length).filter fun j=>e (o.getD j 0)).map nI)) ep=some (.tup ((endsK o e).map nI)):=upd_same
 generalize upd H7 ep (.tup (((List.range o.length).filter fun j=>e (o.getD j 0)).map nI))=H8 at t8 h8e
 refine ⟨(by show 0≤sizeLine; decide),fun rp hrp=>?_⟩
 have t9:=same_new hrp (.lst [])
 have h9r:upd H8 rp (.lst []) rp=some (.lst []):=upd_same
 generalize upd H8 rp (.lst [])=H9 at t9 h9r
 have e59:=((e6.trans t7).trans t8).trans t9
 have hrp5:=none_of ((e6.trans t7).trans t8) hrp
 have ner:ep≠rp:=ne_of_none h8e hrp
 have hRl:(rowsK id (TL l g) o).length=o.length:=by unfold rowsK; rw [List.length_map]
 refine ⟨_,rfl,nd,_,rfl,.inr ⟨on,e59 _ _ h5n,?_⟩⟩
 refine for_dict (a:=nd) (o:=on) (kvs:=nbK o o.length) (mfD l b fv fe nd ep rp v5 g o e H5)
  ⟨v6,[],rfl,h9r,⟨rfl,fun i x r a=>by simp at a⟩,t9 _ _ h8e,e59⟩ (fun i σ H10 _ h=>?_) ?_ ?_
 ·obtain ⟨_,_,_,_,_,_,e10⟩:=h
  exact e10 _ _ h5n
 ·rintro i q v σ H10 hq ⟨v6,ys,rfl,h10r,R10,h10e,e10⟩
  obtain ⟨x,hx,rfl⟩:=kat hq
  have hxm:=List.mem_of_getElem? hx
  refine ⟨_,rfl,.inl ⟨rfl,_,SqL.of h10r⟩,_,rfl,l,rfl,?_⟩
  refine comp_str (cs:=l.cps.toList) (fun j acc H11=>acc=(l.cps.toList.take j).map (fun c=>nI (o.idxOf (g x c)))∧Same H10 H11) (by rw [len_list]; exact small1000 (by omega)) ⟨rfl,Same.refl _⟩ (fun j acc H11 q=>by rw [q.1,List.length_map,List.length_take]; exact Nat.min_le_left _ _)
   (fun j acc H11 c hc q=>?_) (fun acc H11 q y hy=>?_)
  ·obtain ⟨rfl,e11⟩:=q
   have hcl:c∈l.cps.toList:=List.mem_of_getElem? hc
   have e011:=e5.trans (e10.trans e11)
   refine cyes ⟨_,rfl,rfl,e011 _ _ hf,_,rfl,_,rfl,e011 _ _ hf,x,c,rfl,oP x hxm,hcl,e011 _ _ hf,hG _ _ e011 hGH,fun H12 e12=>⟨nd,_,rfl,dget ((e10.trans e11).trans e12) (oM x hxm c hcl),?_,e11.trans e12⟩⟩
   rw [map_take hc]
  obtain ⟨rfl,e11⟩:=q
  rw [List.take_length]
  have u1:=same_new hy (.lst (l.cps.toList.map fun c=>nI (o.idxOf (g x c))))
  refine ⟨y,_,rfl,.inl ⟨SqL.of upd_same,fun z hz=>?_⟩⟩
  have u2:=same_new hz (.tup (l.cps.toList.map fun c=>nI (o.idxOf (g x c))))
  have u02:=(e11.trans u1).trans u2
  have hyl:ys.length≤216:=by
   rw [R10.1,List.length_take,hRl]
   omega
  have hrow:(rowsK id (TL l g) o)[i]? = some (l.cps.toList.map fun c=>o.idxOf (g x c)):=by
   unfold rowsK TL
   rw [List.getElem?_map,hx,Option.map_some,List.map_map,List.map_id]
   rfl
  have h12z:upd (upd H11 y (.lst (l.cps.toList.map fun c=>nI (o.idxOf (g x c))))) z (.tup (l.cps.toList.map fun c=>nI (o.idxOf (g x c)))) z=some (.tup ((l.cps.toList.map fun c=>o.idxOf (g x c)).map nI)):=by
   rw [List.map_map]
   exact upd_same
  generalize upd (upd H11 y (.lst (l.cps.toList.map fun c=>nI (o.idxOf (g x c))))) z (.tup (l.cps.toList.map fun c=>nI (o.idxOf (g x c))))=H12 at u2 u02 h12z
  refine ⟨rp,_,_,rfl,rfl,u02 _ _ h10r,small1000 (by omega),_,ys ++ [.ref z],rfl,upd_same,?_,(upd_ne ner).trans (u02 _ _ h10e),same_put (e10.trans u02) hrp5 _⟩
  rw [List.take_add_one,hrow]
  refine ((R10.keep (Tk.same u02)).keep (Tk.lst (u02 _ _ h10r) _)).snoc ?_
  rw [upd_ne (ne_of h12z (u02 _ _ h10r) fun z=>nomatch z)]
  exact h12z
 ·rintro σ H10 ⟨v6,ys,rfl,h10r,R10,h10e,e10⟩
  rw [nbl,← hRl,List.take_length] at R10
  obtain ⟨ras,rfl,r1,r2⟩:=R10.ras
  refine ⟨_,rfl,_,rfl,_,rfl,rp,_,rfl,.inl ⟨SqL.of h10r,fun sp hsp=>⟨(by show 4≤sizeLine; decide),fun m hm=>?_⟩⟩⟩
  have w1:=same_new hsp (.tup (ras.map V.ref))
  have w2:=same_new hm (.tup [V.str l,V.int 0,.ref ep,.ref sp])
  have w12:=w1.trans w2
  refine k m _ (e5.trans (e10.trans w12)) hN ⟨ep,sp,ras,upd_same,w12 _ _ h10e,w2 _ _ upd_same,r1,fun i a r q1 q2=>w12 _ _ (r2 i a r q1 q2)⟩
abbrev tabLeast:List (Pos × Str):=[(⟨62,4,63,56⟩,"least" ++ ".<locals>." ++ "step"),(⟨64,61,64,92⟩,"least" ++ ".<locals>." ++ "<lambda>")]
def gL (l:Str) (st:List (List Nat)) (L:List Nat) (x c:Nat):Nat:=L.getD (stp l st x c) 0
inductive spLeastI (Pt:Addr) (vs:List V) (H:Hp) (Q:VK):Prop
 | mk (m:Addr) (l:Str) (b:Nat) (es:List Nat) (st:List (List Nat)) (h1:vs=[.ref m]) (h2:MachAt H m l b es st) (h3:es.length≤500) (h4:Tb Pt tabLeast H) (h5:∀ m' k N H',SameT Pt H H'→Tb Pt tabLeast H'→dn (lkN st es (k+1))≤dn (lkN st es k)→(ordK id (TL l (gL l st (lkN st es (k+1)))) ((lkN st es (k+1)).getD b 0) N).length≤N→MLay H' m' l 0 (endsK (ordK id (TL l (gL l st (lkN st es (k+1)))) ((lkN st es (k+1)).getD b 0) N) fun x=>decide (x∈es)) (rowsK id (TL l (gL l st (lkN st es (k+1)))) (ordK id (TL l (gL l st (lkN st es (k+1)))) ((lkN st es (k+1)).getD b 0) N))→Q (.ref m') H'):spLeastI Pt vs H Q
def spLeast (Pt:Addr):Sp:=fun vs H Q u3_=>spLeastI Pt vs H Q
theorem ok_least {f:Addr} {fd:FuncData} (F:Fun K "least" "least" s_least f fd) (Z:Blt mg) {cw Pt:Addr} (hcode:fd.code=.ref cw) (CH:PySem.W.CodeHd base cw Pt) (BM:BltM mg base)
  (C_like_rooms:Cal P w K mg base "like_rooms" 2 ["machine"] spLike) (CM:∀ base,Cal P w K mg base "machine_from" 4 ["letters","begin","step","is_end"] (spMF P w K mg base 2)) (CR:∀ base,Cal P w K mg base "room_behind" 1 ["machine","room","text"] spRoom):FnOk P w K mg base CX0 5 f fd ["machine"] (spLeast Pt):=by
 refine F.okC sc_least (fun vs H Q E h=>?_) (fun A outer s H vs Q E hr h=>?_)
 ·obtain ⟨m,l,b,es,st,rfl,_⟩:=h
  rfl
 obtain ⟨m,l,b,es,st,rfl,M,hes,hT,k⟩:=h
 have tabU:∀ x∈tabLeast,x.1.line=(⟨64,61,64,92⟩:Pos).line→x.1.col=(⟨64,61,64,92⟩:Pos).col→x.2 = "least" ++ ".<locals>." ++ "<lambda>":=fun x hx h1 _=>by
  rcases List.mem_cons.mp hx with z | z
  ·rw [z] at h1
   exact absurd h1 (by decide)
  ·rw [List.mem_singleton.mp z]
 have tabU_step:∀ x∈tabLeast,x.1.line=(⟨62,4,63,56⟩:Pos).line→x.1.col=(⟨62,4,63,56⟩:Pos).col→x.2 = "least" ++ ".<locals>." ++ "step":=fun x hx h1 _=>by
  rcases List.mem_cons.mp hx with z | z
  ·rw [z]
  ·rw [List.mem_singleton.mp z] at h1
   exact absurd h1 (by decide)
 let tabL:=tabLeast
 have C_machine_from:=CM base
 refine ⟨_,(pss_cons (ps_set (i:=1) sc_least.nd (by rfl) (Or.inr (by rfl)) (pe_c C_like_rooms (hr.mono (by decide)) (pa_cons (pv 0) pa_nil))) 
   (pss_cons (ps_nest (i:=2) (L:=tabL) (sc:=defScope s_least) sc_least.nd (by rfl) (Or.inl (by rfl)) hcode CH BM (by first | exact List.mem_cons_self | exact List.mem_cons_of_mem _ List.mem_cons_self) tabU_step) 
   (pss_one (ps_ret (pe_cE C_machine_from (hr.mono (by decide)) (pa_cons (pe_ix (ix_tupK (K:=K)) (pv 0) pe_int (fun _ _=>rfl)) (pa_cons (pe_ix (ix_listK (K:=K)) (pv 1) (pe_ix (ix_tupK (K:=K)) (pv 0) pe_int (fun _ _=>rfl)) (fun _ _=>rfl)) (pa_cons (pv 2) (pa_cons (pe_lam (L:=tabL) (sc:=defScope s_least) hcode CH BM (by first | exact List.mem_cons_self | exact List.mem_cons_of_mem _ List.mem_cons_self) tabU) pa_nil))))))))),?_⟩
 refine (let zz0:TS:=_; let zz1:TS:=tSeq _ zz0; (?_:tSeq _ zz1 _ _ _))
 refine ⟨_,rfl,m,l,b,es,st,rfl,M,hes,fun lp k0 H1 e1 h1l hdn=>?_⟩
 have hTP:∀ {H:Hp} {a:Addr} {xs:List V},Tb Pt tabLeast H→H a=some (.tup xs)→a≠Pt:=fun hT h z=>by
  obtain ⟨ps,hp,_⟩:=hT
  rw [z,hp] at h
  cases h
 have hTL:∀ {H:Hp} {a:Addr} {xs:List V},Tb Pt tabLeast H→H a=some (.lst xs)→a≠Pt:=fun hT h z=>by
  obtain ⟨ps,hp,_⟩:=hT
  rw [z,hp] at h
  cases h
 have mk:∀ {H H':Hp},Tb Pt tabLeast H→SameT Pt H H'→MachAt H m l b es st→MachAt H' m l b es st:=fun hT e M=>by
  obtain ⟨⟨e1,s1,ras,h1,h2,h3,h4,h5⟩,f,g,r⟩:=M
  exact ⟨⟨e1,s1,ras,e _ _ (hTP hT h1) h1,e _ _ (hTP hT h2) h2,e _ _ (hTP hT h3) h3,h4,fun i a r q1 q2=>e _ _ (hTP hT (h5 i a r q1 q2)) (h5 i a r q1 q2)⟩,f,g,r⟩
 have M1:=M.same e1
 have hT1:=hT.same e1
 have lkl:=lkN_len st es (k0+1)
 have lkf:=lkN_firsts st es (k0+1)
 have hst:=M.few.2.2
 have hbeg:=M.beg
 replace k:=fun m' N H'=>k m' k0 N H'
 replace k:=fun m' N H' a b=>k m' N H' a b hdn
 generalize lkN st es (k0+1)=L at h1l lkl lkf k
 clear hdn
 have atL:∀ j,j < st.length→atI (L.map nI) ((j:Nat):Int)=some (nI (L.getD j 0)):=fun j hj=>atI_nat (by rw [List.getElem?_map,(getD_mem (l:=L) (d:=0) (by rw [lkl]; exact hj)).2]; rfl)
 refine ⟨hT1,fun H2 f1 c1 ct1 doc1 e2 hT2 hf10 hf1 hc1=>?_⟩
 have M2:=mk hT1 e2 M1
 have h2l:=e2 _ _ (hTL hT1 h1l) h1l
 obtain ⟨eA,sA,ras,g1,g2,g3,g4,g5⟩:=M2.lay
 refine ⟨_,rfl,m,_,_,_,rfl,rfl,SqT.of g1,atI_nat (j:=0) rfl,_,rfl,_,rfl,m,_,_,_,rfl,rfl,SqT.of g1,atI_nat (j:=1) rfl,lp,_,_,_,rfl,rfl,SqL.of h2l,atL b hbeg,_,rfl,hT2,fun H3 f2 c2 ct2 e3 hT3 hf20 hf2 hc2 base' B=>?_⟩
 have M3:=mk hT2 e3 M2
 have h3l:=e3 _ _ (hTL hT2 h2l) h2l
 have C_room_behind:=CR base'
 have hf3:=e3 _ _ (fun z=>by
  obtain ⟨ps,hp,_⟩:=hT2
  rw [z,hp] at hf1
  cases hf1) hf1
 have hc3:=e3 _ _ (fun z=>by
  obtain ⟨ps,hp,_⟩:=hT2
  rw [z,hp] at hc1
  cases hc1) hc1
 refine ⟨_,_,CM base',f1,_,["room","letter"],f2,_,["room"],l,L.getD b 0,gL l st L,(fun x=>decide (x∈es)),(fun x=>x < st.length),(fun H=>H lp=some (.lst (L.map nI))∧MachAt H m l b es st∧H c1=some (CdO c1 ("least" ++ ".<locals>." ++ "step"))∧H c2=some (CdO c2 ("least" ++ ".<locals>." ++ "<lambda>"))),?_,?_,?_,?_,?_,rfl,?_,?_,M.few.2.1,hf3,hf2,⟨h3l,M3,hc3,hc2⟩,fun m' H4 N e4 hN hM=>k m' N H4 ((e1.t.trans e2).trans (e3.trans e4.t)) (hT3.same e4) hN hM⟩
 ·refine def_ok (N:=["room","letter","likes","machine"]) (fv:=[.ref lp,.ref m]) ⟨rfl,rfl,rfl,by decide,rfl,by decide +kernel,by decide +kernel⟩ (B.cl (sc:=defScope s_least) [1,0] rfl (by decide +kernel) rfl rfl (fun j i x a b=>?_) (fun j i x a b=>?_)) (fun vs H Q E h=>?_) (fun vs H Q E h=>?_) (fun A outer s H vs Q E hr h=>?_)
  ·match j,a,b with
   | 0,a,b=>cases a; cases b; exact ⟨rfl,rfl⟩
   | 1,a,b=>cases a; cases b; exact ⟨rfl,rfl⟩
   | j+2,a,_=>simp at a
  ·match j,a,b with
   | 0,a,b=>cases a; cases b; rfl
   | 1,a,b=>cases a; cases b; rfl
   | j+2,a,_=>simp at a
  ·obtain ⟨x,c,rfl,_⟩:=h
   rfl
  ·obtain ⟨x,c,rfl,_,_,h1,h2,_⟩:=h
   exact ⟨h1,h2.2.2.1⟩
  ·obtain ⟨x,c,rfl,hx,hc,h1,⟨hl1,hm1,_,_⟩,k⟩:=h
   refine ⟨_,(pss_one (ps_ret (pe_ix (ix_listK (K:=K)) (pv 2) (pe_c C_room_behind (hr.mono (by decide)) (pa_cons (pv 3) (pa_cons (pv 0) (pa_cons (pv 1) pa_nil)))) (fun _ _=>rfl)))),?_⟩
   have hlt:=stp_lt hm1 hx hc
   refine ⟨_,rfl,_,rfl,_,rfl,_,rfl,m,l,b,es,st,x,one c,rfl,hm1,hx,fun d hd=>?_,lp,_,_,_,rfl,rfl,SqL.of hl1,atL _ hlt,k _ (Same.refl _)⟩
   rw [List.mem_singleton.mp hd]
   exact hc
 ·exact .all fun us hl=>match us,hl with | [_,_],_=>rfl
 ·refine lam_ok (N:=["room","machine"]) (fv:=[.ref m]) ⟨rfl,rfl,rfl,by decide,rfl,by decide +kernel,by decide +kernel⟩ (B.cl (sc:=defScope s_least) [0] rfl (by decide +kernel) rfl rfl (fun j i x a b=>?_) (fun j i x a b=>?_)) (fun vs H Q E h=>?_) (fun vs H Q E h=>?_) (fun A outer s H vs Q E hr h=>?_)
  ·match j,a,b with
   | 0,a,b=>cases a; cases b; exact ⟨rfl,rfl⟩
   | j+1,a,_=>simp at a
  ·match j,a,b with
   | 0,a,b=>cases a; cases b; rfl
   | j+1,a,_=>simp at a
  ·obtain ⟨x,rfl,_⟩:=h
   rfl
  ·obtain ⟨x,rfl,_,h1,h2,_⟩:=h
   exact ⟨h1,h2.2.2.2⟩
  ·obtain ⟨x,rfl,hx,h1,⟨hl1,hm1,_,_⟩,k⟩:=h
   refine ⟨_,(pe_cmpR (op_inK (K:=K)) (pv 0) (pe_ix (ix_tupK (K:=K)) (pv 1) pe_int (fun _ _=>rfl)) (by with_unfolding_all rfl)),?_⟩
   obtain ⟨eA,sA,ras,g1,g2,g3,g4,g5⟩:=hm1.lay
   refine ⟨_,rfl,_,rfl,m,_,_,_,rfl,rfl,SqT.of g1,atI_nat (j:=2) rfl,eA,_,rfl,.inr (SqT.of g2),rfl,flat_nI es,?_⟩
   have e:decide (x∈es)=inV (nI x) (es.map nI):=(inV_nI x es).symm
   have k2:=k _ (Same.refl _)
   have k3:Q (V.bl (decide (x∈es))) H:=k2
   rw [e] at k3
   exact k3
 ·exact .all fun us hl=>match us,hl with | [_],_=>rfl
 ·exact fun H1 H2 e ⟨a1,a2,a3,a4⟩=>⟨e _ _ a1,a2.same e,e _ _ a3,e _ _ a4⟩
 ·have:=lkf.le b (by omega)
  show L.getD b 0 < st.length
  omega
 ·intro x hx
  refine ⟨Nat.lt_of_lt_of_le hx hst,fun c hc=>?_⟩
  have h1:=stp_lt M hx hc
  have:=lkf.le (stp l st x c) (by omega)
  show L.getD (stp l st x c) 0 < st.length
  omega
inductive spEdTI (f:Addr) (fd:FuncData) (key:Nat→List Key) (pl:Nat→Prop) (e:Nat→Bool) (G:Hp→Prop) (vs:List V) (H:Hp) (Q:VK):Prop
 | mk (a x:_) (h1:vs=[.ref a]) (h2:H a=some (.tup ((key x).map kV))) (h3:pl x) (h4:H f=some (FnO f fd)) (h5:G H) (h6:∀ H',Same H H'→Q (.bl (e x)) H'):spEdTI f fd key pl e G vs H Q
def spEdT (f:Addr) (fd:FuncData) (key:Nat→List Key) (pl:Nat→Prop) (e:Nat→Bool) (G:Hp→Prop):Sp:=fun vs H Q u3_=>spEdTI f fd key pl e G vs H Q
def NbT (key:Nat→List Key) (kvs:List (List Key × V)) (o:List Nat):Prop:=kvs.map (·.1)=o.map key∧∀ (i:Nat) k v,kvs[i]? = some (k,v)→v=nI i
theorem NbT.len {key:Nat→List Key} {kvs:List (List Key × V)} {o:List Nat} (h:NbT key kvs o):kvs.length=o.length:=by
 have:=congrArg List.length h.1
 rwa [List.length_map,List.length_map] at this
theorem NbT.snoc {key:Nat→List Key} {kvs:List (List Key × V)} {o:List Nat} (h:NbT key kvs o) (x:Nat):NbT key (kvs ++ [(key x,nI o.length)]) (o ++ [x]):=by
 have hl:=h.len
 refine ⟨by rw [List.map_append,List.map_append,h.1]; rfl,fun i k v q=>?_⟩
 rcases Nat.lt_or_ge i kvs.length with z | z
 ·rw [List.getElem?_append_left z] at q
  exact h.2 i k v q
 ·rw [List.getElem?_append_right z] at q
  cases hi:i - kvs.length with
  | zero=>
   rw [hi] at q
   cases q
   rw [show i=o.length by omega]
  | succ n=>rw [hi] at q; simp at q
theorem NbT.val {key:Nat→List Key} {pl:Nat→Prop} (inj:∀ x y,pl x→pl y→key x=key y→x=y) {kvs:List (List Key × V)} {o:List Nat} (h:NbT key kvs o) (ho:∀ y∈o,pl y) (nd:o.Nodup) {x:Nat} (hx:x∈o):valV kvs (key x)=some (nI (o.idxOf x)):=by
 obtain ⟨i,v,g1,g2,g3⟩:=keysT_yes inj (ho x hx) h.1 ho hx
 rw [g3,h.2 i _ _ g1]
 obtain ⟨hi,e⟩:=List.getElem?_eq_some_iff.mp g2
 have:=List.Nodup.idxOf_getElem nd i hi
 rw [e] at this
 rw [this]
theorem NbT.at_ {key:Nat→List Key} {kvs:List (List Key × V)} {o:List Nat} (h:NbT key kvs o) {i x:Nat} (hx:o[i]? = some x):kvs[i]? = some (key x,nI i):=by
 have hi:i < kvs.length:=by rw [h.len]; exact (List.getElem?_eq_some_iff.mp hx).1
 have e1:kvs[i]? = some kvs[i]:=List.getElem?_eq_getElem hi
 have e2:(kvs.map (·.1))[i]? = some (key x):=by rw [h.1,List.getElem?_map,hx]; rfl
 rw [List.getElem?_map,e1] at e2
 have e3:kvs[i].1=key x:=Option.some.inj e2
 have e4:=h.2 i kvs[i].1 kvs[i].2 e1
 rw [e1,← e3,← e4]
inductive spMFTI (P:Program) (w:World) (K:PySem.W.Frag) (mg:Str→Option Value) (base:Heap) (n:Nat) (vs:List V) (H:Hp) (Q:VK):Prop
 | mk (f:Addr) (fd:FuncData) (ps:List Str) (f2:Addr) (fd2:FuncData) (ps2:List Str) (l:Str) (a0:Addr) (b:Nat) (g:Nat→Nat→Nat) (e:Nat→Bool) (key:Nat→List Key) (pl:Nat→Prop) (G:Hp→Prop) (h1:FnOk P w K mg base CX0 n f fd ps (spStT f fd l g key pl G)) (h2:Binds K fd ps []) (h3:FnOk P w K mg base CX0 n f2 fd2 ps2 (spEdT f2 fd2 key pl e G)) (h4:Binds K fd2 ps2 []) (h5:(∀ H1 H2,Same H1 H2→G H1→G H2)) (h6:vs=[.str l,.ref a0,.ref f,.ref f2]) (h7:H a0=some (.tup ((key b).map kV))) (h8:pl b) (h9:(∀ x,pl x→x < 216∧∀ c∈l.cps.toList,pl (g x c))) (h10:(∀ x y,pl x→pl y→key x=key y→x=y)) (h11:l.length≤3) (h12:H f=some (FnO f fd)) (h13:H f2=some (FnO f2 fd2)) (h14:G H) (h15:∀ m H' N,Same H H'→(ordK id (TL l g) b N).length≤N→MLay H' m l 0 (endsK (ordK id (TL l g) b N) e) (rowsK id (TL l g) (ordK id (TL l g) b N))→Q (.ref m) H'):spMFTI P w K mg base n vs H Q
def spMFT (P:Program) (w:World) (K:PySem.W.Frag) (mg:Str→Option Value) (base:Heap) (n:Nat):Sp:=fun vs H Q u3_=>spMFTI P w K mg base n vs H Q
def mtD (l:Str) (a0 fv fe nd ep rp:Addr) (v5:Option V) (g:Nat→Nat→Nat) (o:List Nat) (e:Nat→Bool) (H5 H9:Hp) (i:Nat) (σ:L2.St) (H10:Hp):Prop:=∃ (v6:Option V) (ys:List V),σ=[some (.str l),some (.ref a0),some (.ref fv),some (.ref fe),some (.ref nd),v5,v6,some (.ref ep),some (.ref rp)]∧H10 rp=some (.lst ys)∧RowsN H10 ys ((rowsK id (TL l g) o).take i)∧H10 ep=some (.tup ((endsK o e).map nI))∧Same H5 H10∧Tk H9 H10
theorem ok_machine_fromT {n:Nat} {f:Addr} {fd:FuncData} (F:Fun K "machine_from" "machine_from" s_machine_from f fd) (Z:Blt mg) (C_walked:Cal P w K mg base "walked" (n+1) ["letters","begin","step"] (spWkT P w K mg base n)):FnOk P w K mg base CX0 (n+2) f fd ["letters","begin","step","is_end"] (spMFT P w K mg base n):=by
 refine F.ok sc_machine_from (fun vs H Q E h=>?_) (fun cdv A outer s H vs Q E hr h=>?_)
 ·obtain ⟨f,fd,ps,f2,fd2,ps2,l,a0,b,g,e,key,pl,G,_,_,_,_,_,rfl,_⟩:=h
  rfl
 obtain ⟨fv,fdv,ps,fe,fde,ps2,l,a0,b,g,e,key,pl,G,Fv_step,bv_step,Fv_is_end,bv_is_end,hG,rfl,ha0,hb,hpl,inj,hl,hf,hf2,hGH,k⟩:=h
 refine ⟨_,(pss_cons (ps_set (i:=4) sc_machine_from.nd (by rfl) (Or.inr (by rfl)) pe_dnewT) 
   (pss_cons (ps_for PassesOwn.never (by rfl) (pi_enumT (by rfl) Z.enumerate (pe_c C_walked (hr.mono (by omega)) (pa_cons (pv 0) (pa_cons (pv 1) (pa_cons (pv 2) pa_nil))))) (pg_tupK (K:=K) (n:=2) (by rfl) (pgs_cons (pg_name (i:=5) sc_machine_from.nd (by rfl) (Or.inl (by rfl))) (pgs_cons (pg_name (i:=6) sc_machine_from.nd (by rfl) (Or.inr (by rfl))) pgs_nil))) 
    (pss_one (ps_dput (hu_of hr) (pv 4) (pv 6) (pv 5) rfl))) 
   (pss_cons (ps_set (i:=7) sc_machine_from.nd (by rfl) (Or.inl (by rfl)) (pe_callTy (call_tupK (K:=K)) (by rfl) Z.tuple bt_tuple (pa_cons (pe_comp (sc:=defScope s_machine_from) (Nm:=["letters","begin","step","is_end","numbers","number","place","ends","steps"]) (own:=["place"]) (fr:=[3,4]) ⟨rfl,by decide +kernel,by decide +kernel,by decide +kernel,by decide +kernel⟩ (by rfl) (gfr_name (by decide)) (pi_dictT (pv 4)) (fun d=>(pg_name (i:=0) nd_machine_from_0 (by rfl) (Or.inl (by rfl)))) (fun d=>(pts_one (pt_truthK (K:=K) (pe_callV (i:=1) Fv_is_end (hr.mono (by omega)) bv_is_end (pa_cons (pv 0) pa_nil)) (fun _=>rfl)))) (fun d=>(pe_dget (hu_of hr) (pv 2) (pv 0) (fun _ _=>rfl)))) pa_nil))) 
   (pss_cons (ps_set (i:=8) sc_machine_from.nd (by rfl) (Or.inl (by rfl)) (pe_lst pa_nil)) 
   (pss_cons (ps_for PassesOwn.never (by rfl) (pi_dictT (pv 4)) (pg_name (i:=6) sc_machine_from.nd (by rfl) (Or.inr (by rfl))) 
    (pss_one (ps_expr (pe_bmK (K:=K) PySem.F.plainAttrs_list PySem.F.slot_list_append PySem.F.type_list_append mt_append (pv 8) (pa_cons (pe_callTy (call_tupK (K:=K)) (by rfl) Z.tuple bt_tuple (pa_cons (pe_comp (sc:=defScope s_machine_from) (Nm:=["letters","begin","step","is_end","numbers","number","place","ends","steps"]) (own:=["letter"]) (fr:=[2,4,6]) ⟨rfl,by decide +kernel,by decide +kernel,by decide +kernel,by decide +kernel⟩ (by rfl) (gfr_name (by decide)) (pi_str (pv 0)) (fun d=>(pg_name (i:=0) nd_machine_from_1 (by rfl) (Or.inl (by rfl)))) (fun d=>pts_nil) (fun d=>(pe_dget (hu_of hr) (pv 2) (pe_callV (i:=1) Fv_step (hr.mono (by omega)) bv_step (pa_cons (pv 3) (pa_cons (pv 0) pa_nil))) (fun _ _=>rfl)))) pa_nil)) pa_nil))))) 
   (pss_one (ps_ret (pe_tup (pa_cons (pv 0) (pa_cons pe_int (pa_cons (pv 7) (pa_cons (pe_callTy (call_tupK (K:=K)) (by rfl) Z.tuple bt_tuple (pa_cons (pv 8) pa_nil)) pa_nil)))))))))))),?_⟩
 refine (let zz0:TS:=_; let zz1:TS:=tSeq _ zz0; let zz2:TS:=tSeq _ zz1; let zz3:TS:=tSeq _ zz2; let zz4:TS:=tSeq _ zz3; (?_:tSeq _ zz4 _ _ _))
 have hT:∀ x,pl x→∀ y∈TL l g x,pl y:=fun x hx y hy=>by
  obtain ⟨c,hc,e⟩:=List.mem_map.mp hy
  rw [← e]
  exact (hpl x hx).2 c hc
 refine fun nd hnd=>?_
 have s1:=same_new hnd (.dT [])
 have h1n:upd H nd (.dT []) nd=some (.dT []):=upd_same
 generalize upd H nd (.dT [])=H1 at s1 h1n
 refine ⟨_,rfl,_,rfl,_,rfl,fv,fdv,ps,l,a0,b,g,key,pl,G,Fv_step,bv_step,hG,rfl,s1 _ _ ha0,hb,hpl,inj,s1 _ _ hf,hG _ _ s1 hGH,fun d H2 N hd e2 T2 hN=>?_⟩
 have oL:(ordK id (TL l g) b N).length≤216:=ordK_len hb hT (fun x hx=>(hpl x hx).1) N
 have oP:∀ y∈ordK id (TL l g) b N,pl y:=ordK_all hb hT N
 have oN:(ordK id (TL l g) b N).Nodup:=by
  have:=ordK_nd (k:=id) (T:=TL l g) (b:=b) N
  rwa [List.map_id] at this
 have oM:∀ x∈ordK id (TL l g) b N,∀ c∈l.cps.toList,g x c∈ordK id (TL l g) b N:=fun x hx c hc=>by
  obtain ⟨j,hj,ej⟩:=List.getElem_of_mem hx
  have:=ordK_met (k:=id) (T:=TL l g) (b:=b) (n:=N) (j:=j) (x:=x) (y:=g x c) (by rw [List.getElem?_eq_getElem hj,ej]) (by omega) (List.mem_map.mpr ⟨c,hc,rfl⟩)
  rw [List.map_id] at this
  exact this
 replace k:=fun m H'=>k m H' N
 generalize ordK id (TL l g) b N=o at k hN T2 oL oP oN oM
 have hd0:=none_of s1 hd
 obtain ⟨kvs,h2d,hkk,hkv⟩:=T2
 have hkl:kvs.length=o.length:=by
  have:=congrArg List.length hkk
  rwa [List.length_map,List.length_map] at this
 have nnd:nd≠d:=ne_of_none h1n hd
 refine ⟨d,kvs,rfl,h2d,fun ob bs KB=>?_⟩
 have h3n:upd H2 d (.frz ob (.dT kvs)) nd=some (.dT []):=(upd_ne nnd).trans (e2 _ _ h1n)
 have e3:Same H (upd H2 d (.frz ob (.dT kvs))):=same_put (s1.trans e2) hd0 _
 have h3d:upd H2 d (.frz ob (.dT kvs)) d=some (.frz ob (.dT kvs)):=upd_same
 generalize upd H2 d (.frz ob (.dT kvs))=H3 at h3n e3 h3d KB
 have hbl:=KB.1
 have kb:∀ (i:Nat) a x,bs[i]? = some a→o[i]? = some x→H3 a=some (.tup ((key x).map kV)):=fun i a x q1 q2=>by
  have hi:i < kvs.length:=by rw [hkl]; exact (List.getElem?_eq_some_iff.mp q2).1
  have e1:kvs[i]? = some (kvs[i].1,kvs[i].2):=List.getElem?_eq_getElem hi
  have e2:(kvs.map (·.1))[i]? = some (key x):=by rw [hkk,List.getElem?_map,q2]; rfl
  rw [List.getElem?_map,e1] at e2
  have e3:kvs[i].1=key x:=Option.some.inj e2
  have:=KB.2 i a _ _ q1 e1
  rwa [e3] at this
 refine for_enum (Sq:=fun H xs=>H d=some (.frz ob (.dT kvs))∧xs=bs.map V.ref) (xs:=bs.map V.ref) (fun i σ H4=>∃ (v5 v6:Option V) (ns:List (List Key × V)),σ=[some (.str l),some (.ref a0),some (.ref fv),some (.ref fe),some (.ref nd),v5,v6,none,none]∧H4 nd=some (.dT ns)∧NbT key ns (o.take i)∧H4 d=some (.frz ob (.dT kvs))∧Same H H4∧Tk H3 H4)
  ⟨none,none,[],rfl,h3n,⟨rfl,fun i k v q=>by simp at q⟩,h3d,e3,Tk.same (Same.refl _)⟩ (fun i σ H4 _ h=>?_) ?_ ?_
 ·obtain ⟨_,_,_,_,_,_,h4,_⟩:=h
  exact ⟨h4,rfl⟩
 ·rintro i x σ H4 p hx ⟨v5,v6,ns,rfl,h4n,N4,h4d,e4,t4⟩ hp
  rw [List.getElem?_map] at hx
  cases hxx:bs[i]? with
  | none=>rw [hxx] at hx; cases hx
  | some ba=>
   rw [hxx] at hx
   cases hx
   have hil:i < o.length:=by rw [← hkl,← hbl]; exact (List.getElem?_eq_some_iff.mp hxx).1
   have hoy:o[i]? = some (o[i]'hil):=List.getElem?_eq_getElem hil
   generalize o[i]'hil=y at hoy
   have hba:=t4 _ _ (kb i ba y hxx hoy)
   have s5:=same_new hp (.tup [V.int (i:Int),V.ref ba])
   have h5p:upd H4 p (.tup [V.int (i:Int),V.ref ba]) p=some (.tup [V.int (i:Int),V.ref ba]):=upd_same
   generalize upd H4 p (.tup [V.int (i:Int),V.ref ba])=H5 at s5 h5p
   have hnl:=N4.len
   rw [List.length_take] at hnl
   have hnew:valV ns (key y)=none:=keysT_no inj (oP y (List.mem_of_getElem? hoy)) N4.1 (fun z hz=>oP z (List.mem_of_mem_take hz)) fun z=>by
    obtain ⟨j,hj,e⟩:=List.getElem_of_mem z
    rw [List.length_take] at hj
    rw [List.getElem_take] at e
    have h1:=List.Nodup.idxOf_getElem oN j (by omega)
    have h2:=List.Nodup.idxOf_getElem oN i hil
    rw [(List.getElem?_eq_some_iff.mp hoy).2] at h2
    rw [e,h2] at h1
    omega
   have tkd:=Tk.dct (s5 _ _ h4n) (.dT (ns ++ [(key y,V.int (i:Int))]))
   refine ⟨p,_,rfl,SqT.of h5p,rfl,_,_,rfl,_,_,rfl,rfl,?_⟩
   refine ⟨_,rfl,_,rfl,_,rfl,nd,_,rfl,DPut.t (k:=key y) (s5 _ _ h4n) (s5 _ _ hba) (by rw [sizeLine_eq]; omega),?_⟩
   rw [putK_new _ hnew]
   refine ⟨_,_,_,rfl,upd_same,?_,(upd_ne nnd.symm).trans (s5 _ _ h4d),same_put (e4.trans s5) hnd _,(t4.trans (Tk.same s5)).trans tkd⟩
   rw [List.take_add_one,hoy]
   have:=N4.snoc y
   rw [List.length_take,Nat.min_eq_left (by omega)] at this
   exact this
 rintro σ H4 ⟨v5,v6,ns,rfl,h4n,N4,_,e4,_⟩
 rw [List.length_map,hbl,hkl,List.take_length] at N4
 have nbl:=N4.len
 refine ⟨_,rfl,nd,_,rfl,.inl ⟨h4n,fun on bs2 KB2=>?_⟩⟩
 have e5:Same H (upd H4 nd (.frz on (.dT ns))):=same_put e4 hnd _
 have h5n:upd H4 nd (.frz on (.dT ns)) nd=some (.frz on (.dT ns)):=upd_same
 generalize upd H4 nd (.frz on (.dT ns))=H5 at e5 h5n KB2
 have kat:∀ {H6:Hp} {bs:List Addr},KeyTs H6 ns bs→∀ {i:Nat} {a:Addr},bs[i]? = some a→∃ y,o[i]? = some y∧H6 a=some (.tup ((key y).map kV)):=fun {H6 bs} KB {i a} h=>by
  have hi:i < o.length:=by rw [← nbl,← KB.1]; exact (List.getElem?_eq_some_iff.mp h).1
  exact ⟨o[i],List.getElem?_eq_getElem hi,KB.2 i a _ _ h (N4.at_ (List.getElem?_eq_getElem hi))⟩
 have dget:∀ {H6:Hp} {x:Nat} {a:Addr},Same H5 H6→x∈o→H6 a=some (.tup ((key x).map kV))→DGet H6 nd (.ref a) (some (nI (o.idxOf x))):=fun {H6 x a} e6 hx ha=>by
  rw [← N4.val inj oP oN hx]
  exact .inr ⟨_,key x,a,.inr ⟨on,e6 _ _ h5n⟩,rfl,ha,rfl⟩
 refine comp_dictT (a:=nd) (o:=on) (kvs:=ns) (bs:=bs2) (fun i acc H6=>acc=(((List.range i).filter fun j=>e (o.getD j 0)).map nI)∧Same H5 H6) (small1000 (by omega)) ⟨rfl,Same.refl _⟩
  (fun i acc H6 q=>by rw [q.1,List.length_map]; exact Nat.le_trans (List.length_filter_le _ _) (by rw [List.length_range]; exact Nat.le_refl _)) (fun i acc H6 q=>q.2 _ _ h5n) (fun i acc H6 ba hq p=>?_) (fun acc H6 p y hy=>?_)
 ·obtain ⟨rfl,e6⟩:=p
  obtain ⟨y,hy,hba⟩:=kat KB2 hq
  have hyD:o.getD i 0=y:=by rw [List.getD_eq_getElem?_getD,hy]; rfl
  have hym:=List.mem_of_getElem? hy
  have e06:=e5.trans e6
  refine ⟨rfl,e06 _ _ hf2,_,rfl,e06 _ _ hf2,ba,y,rfl,e6 _ _ hba,oP y hym,e06 _ _ hf2,hG _ _ e06 hGH,fun H7 e7=>⟨_,rfl,?_⟩⟩
  have hfl:((List.range (i+1)).filter fun j=>e (o.getD j 0))=((List.range i).filter fun j=>e (o.getD j 0)) ++ if e y=true then [i] else []:=by
   rw [List.range_succ,List.filter_append,List.filter_cons,hyD]
   rfl
  rw [hfl,List.map_append]
  refine ite2 (fun c=>?_) (fun c=>?_)
  ·rw [if_pos c]
   refine ⟨_,rfl,_,rfl,nd,_,rfl,dget (e6.trans e7) hym (e7 _ _ (e6 _ _ hba)),?_,e6.trans e7⟩
   have:o.idxOf y=i:=by
    have h1:=List.Nodup.idxOf_getElem oN i (List.getElem?_eq_some_iff.mp hy).1
    rw [(List.getElem?_eq_some_iff.mp hy).2] at h1
    exact h1
   rw [this]
   rfl
  ·rw [if_neg c]
   exact ⟨by rw [List.map_nil,List.append_nil],e6.trans e7⟩
 obtain ⟨rfl,e6⟩:=p
 rw [nbl]
 have t7:=same_new hy (.lst (((List.range o.length).filter fun j=>e (o.getD j 0)).map nI))
 have h7y:upd H6 y (.lst (((List.range o.length).filter fun j=>e (o.getD j 0)).map nI)) y=some (.lst (((List.range o.length).filter fun j=>e (o.getD j 0)).map nI)):=upd_same
 generalize upd H6 y (.lst (((List.range o.length).filter fun j=>e (o.getD j 0)).map nI))=H7 at t7 h7y
 refine ⟨y,_,rfl,.inl ⟨SqL.of h7y,fun ep hep=>?_⟩⟩
 have t8:=same_new hep (.tup (((List.range o.length).filter fun j=>e (o.getD j 0)).map nI))
 have h8e:upd H7 ep (.tup (((List.range o.length).filter fun j=>e (o.getD j 0)).map nI)) ep=some (.tup ((endsK o e).map nI)):=upd_same
 generalize upd H7 ep (.tup (((List.range o.length).filter fun j=>e (o.getD j 0)).map nI))=H8 at t8 h8e
 refine ⟨(by show 0≤sizeLine; decide),fun rp hrp=>?_⟩
 have t9:=same_new hrp (.lst [])
 have h9r:upd H8 rp (.lst []) rp=some (.lst []):=upd_same
 generalize upd H8 rp (.lst [])=H9 at t9 h9r
 have e59:=((e6.trans t7).trans t8).trans t9
 have hrp5:=none_of ((e6.trans t7).trans t8) hrp
 have ner:ep≠rp:=ne_of_none h8e hrp
 have hRl:(rowsK id (TL l g) o).length=o.length:=by unfold rowsK; rw [List.length_map]
 refine ⟨_,rfl,nd,_,rfl,.inr ⟨on,e59 _ _ h5n,fun bs3 KB3=>?_⟩⟩
 refine for_dictT (a:=nd) (o:=on) (kvs:=ns) (bs:=bs3) (mtD l a0 fv fe nd ep rp v5 g o e H5 H9)
  ⟨v6,[],rfl,h9r,⟨rfl,fun i x r a=>by simp at a⟩,t9 _ _ h8e,e59,Tk.same (Same.refl _)⟩ (fun i σ H10 _ h=>?_) ?_ ?_
 ·obtain ⟨_,_,_,_,_,_,e10,_⟩:=h
  exact e10 _ _ h5n
 ·rintro i ba σ H10 hq ⟨v6,ys,rfl,h10r,R10,h10e,e10,k10⟩
  obtain ⟨x,hx,hba⟩:=kat KB3 hq
  have hxm:=List.mem_of_getElem? hx
  have h10b:=k10 _ _ hba
  refine ⟨_,rfl,.inl ⟨rfl,_,SqL.of h10r⟩,_,rfl,l,rfl,?_⟩
  refine comp_str (cs:=l.cps.toList) (fun j acc H11=>acc=(l.cps.toList.take j).map (fun c=>nI (o.idxOf (g x c)))∧Same H10 H11) (by rw [len_list]; exact small1000 (by omega)) ⟨rfl,Same.refl _⟩ (fun j acc H11 q=>by rw [q.1,List.length_map,List.length_take]; exact Nat.min_le_left _ _)
   (fun j acc H11 c hc q=>?_) (fun acc H11 q y hy=>?_)
  ·obtain ⟨rfl,e11⟩:=q
   have hcl:c∈l.cps.toList:=List.mem_of_getElem? hc
   have e011:=e5.trans (e10.trans e11)
   refine cyes ⟨_,rfl,rfl,e011 _ _ hf,_,rfl,_,rfl,e011 _ _ hf,ba,x,c,rfl,e11 _ _ h10b,oP x hxm,hcl,e011 _ _ hf,hG _ _ e011 hGH,fun r H12 e12 h12=>⟨nd,_,rfl,dget ((e10.trans e11).trans e12) (oM x hxm c hcl) h12,?_,e11.trans e12⟩⟩
   rw [map_take hc]
  obtain ⟨rfl,e11⟩:=q
  rw [List.take_length]
  have u1:=same_new hy (.lst (l.cps.toList.map fun c=>nI (o.idxOf (g x c))))
  refine ⟨y,_,rfl,.inl ⟨SqL.of upd_same,fun z hz=>?_⟩⟩
  have u2:=same_new hz (.tup (l.cps.toList.map fun c=>nI (o.idxOf (g x c))))
  have u02:=(e11.trans u1).trans u2
  have hyl:ys.length≤216:=by
   rw [R10.1,List.length_take,hRl]
   omega
  have hrow:(rowsK id (TL l g) o)[i]? = some (l.cps.toList.map fun c=>o.idxOf (g x c)):=by
   unfold rowsK TL
   rw [List.getElem?_map,hx,Option.map_some,List.map_map,List.map_id]
   rfl
  have h12z:upd (upd H11 y (.lst (l.cps.toList.map fun c=>nI (o.idxOf (g x c))))) z (.tup (l.cps.toList.map fun c=>nI (o.idxOf (g x c)))) z=some (.tup ((l.cps.toList.map fun c=>o.idxOf (g x c)).map nI)):=by
   rw [List.map_map]
   exact upd_same
  generalize upd (upd H11 y (.lst (l.cps.toList.map fun c=>nI (o.idxOf (g x c))))) z (.tup (l.cps.toList.map fun c=>nI (o.idxOf (g x c))))=H12 at u2 u02 h12z
  have tkr:=Tk.lst (u02 _ _ h10r) (.lst (ys ++ [V.ref z]))
  refine ⟨rp,_,_,rfl,rfl,u02 _ _ h10r,small1000 (by omega),_,ys ++ [.ref z],rfl,upd_same,?_,(upd_ne ner).trans (u02 _ _ h10e),same_put (e10.trans u02) hrp5 _,(k10.trans (Tk.same u02)).trans tkr⟩
  rw [List.take_add_one,hrow]
  refine ((R10.keep (Tk.same u02)).keep tkr).snoc ?_
  exact tkr _ _ h12z
 ·rintro σ H10 ⟨v6,ys,rfl,h10r,R10,h10e,e10,_⟩
  rw [nbl,← hRl,List.take_length] at R10
  obtain ⟨ras,rfl,r1,r2⟩:=R10.ras
  refine ⟨_,rfl,_,rfl,_,rfl,rp,_,rfl,.inl ⟨SqL.of h10r,fun sp hsp=>⟨(by show 4≤sizeLine; decide),fun m hm=>?_⟩⟩⟩
  have w1:=same_new hsp (.tup (ras.map V.ref))
  have w2:=same_new hm (.tup [V.str l,V.int 0,.ref ep,.ref sp])
  have w12:=w1.trans w2
  exact k m _ (e5.trans (e10.trans w12)) hN ⟨ep,sp,ras,upd_same,w12 _ _ h10e,w2 _ _ upd_same,r1,fun i a r q1 q2=>w12 _ _ (r2 i a r q1 q2)⟩
structure Wk (st:List (List Nat)) (es:List Nat) (w:Nat) (k:Nat→Nat) (T:Nat→List Nat) (pl:Nat→Prop):Prop where
 key:∀ x x',pl x→pl x'→(k x=k x'↔Fut st es w x x')
 len:∀ x,pl x→(T x).length=w
 tgt:∀ x,pl x→∀ (j t:Nat),(T x)[j]? = some t→pl t∧Fut st es w t (stN st x j)
def Lk (st1:List (List Nat)) (es1:List Nat) (st2:List (List Nat)) (es2:List Nat) (w x y:Nat):Prop:=∀ cs:List Nat,(∀ c∈cs,c < w)→(wayN st1 x cs∈es1↔wayN st2 y cs∈es2)
def RR (st1:List (List Nat)) (es1:List Nat) (p1:Nat→Prop) (st2:List (List Nat)) (es2:List Nat) (p2:Nat→Prop) (w x y:Nat):Prop:=p1 x∧p2 y∧Lk st1 es1 st2 es2 w x y
section
variable {st1 st2:List (List Nat)} {es1 es2:List Nat} {w:Nat} {k1 k2:Nat→Nat} {T1 T2:Nat→List Nat} {p1 p2:Nat→Prop}
theorem Wk.kr (W1:Wk st1 es1 w k1 T1 p1) (W2:Wk st2 es2 w k2 T2 p2):KR (RR st1 es1 p1 st2 es2 p2 w) k1 k2:=by
 rintro x y x' y' ⟨a1,a2,a⟩ ⟨b1,b2,b⟩
 rw [W1.key x x' a1 b1,W2.key y y' a2 b2]
 exact ⟨fun h cs hc=>(a cs hc).symm.trans ((h cs hc).trans (b cs hc)),fun h cs hc=>(a cs hc).trans ((h cs hc).trans (b cs hc).symm)⟩
theorem Wk.pw (W1:Wk st1 es1 w k1 T1 p1) (W2:Wk st2 es2 w k2 T2 p2):∀ x y,RR st1 es1 p1 st2 es2 p2 w x y→Pw (RR st1 es1 p1 st2 es2 p2 w) (T1 x) (T2 y):=by
 rintro x y ⟨a1,a2,a⟩
 refine Pw.of (by rw [W1.len x a1,W2.len y a2]) fun i t u ht hu=>?_
 obtain ⟨c1,d1⟩:=W1.tgt x a1 i t ht
 obtain ⟨c2,d2⟩:=W2.tgt y a2 i u hu
 have hi:i < w:=by rw [← W1.len x a1]; exact (List.getElem?_eq_some_iff.mp ht).1
 refine ⟨c1,c2,fun cs hc=>(d1 cs hc).trans (Iff.trans ?_ (d2 cs hc).symm)⟩
 exact a (i :: cs) fun c hcc=>by
  rcases List.mem_cons.mp hcc with z | z
  ·rw [z]; exact hi
  ·exact hc c z
theorem same_least (W1:Wk st1 es1 w k1 T1 p1) (W2:Wk st2 es2 w k2 T2 p2) {b1 b2 N1 N2:Nat} (h1:p1 b1) (h2:p2 b2) (hb:Lk st1 es1 st2 es2 w b1 b2) (hN1:(ordK k1 T1 b1 N1).length≤N1) (hN2:(ordK k2 T2 b2 N2).length≤N2) :
  rowsK k1 T1 (ordK k1 T1 b1 N1)=rowsK k2 T2 (ordK k2 T2 b2 N2)∧endsK (ordK k1 T1 b1 N1) (fun x=>decide (x∈es1))=endsK (ordK k2 T2 b2 N2) fun x=>decide (x∈es2):=by
 have e1:=ordK_stop hN1 (max N1 N2) (Nat.le_max_left _ _)
 have e2:=ordK_stop hN2 (max N1 N2) (Nat.le_max_right _ _)
 rw [← e1,← e2]
 have h:=Pw.ord (W1.kr W2) (W1.pw W2) (show RR st1 es1 p1 st2 es2 p2 w b1 b2 from ⟨h1,h2,hb⟩) (max N1 N2)
 exact ⟨h.rows (W1.kr W2) (W1.pw W2),h.ends fun x y r=>decide_eq_decide.mpr (r.2.2 [] fun c hc=>nomatch hc)⟩
end
section
variable {st:List (List Nat)} {es:List Nat} {w:Nat} {k:Nat→Nat} {T:Nat→List Nat} {pl:Nat→Prop} {b N:Nat}
theorem Wk.all (W:Wk st es w k T pl) (hb:pl b) (i:Nat):∀ y∈ordK k T b i,pl y:=ordK_all hb (fun x hx y hy=>by
 obtain ⟨j,hj,e⟩:=List.getElem_of_mem hy
 exact (W.tgt x hx j y (by rw [List.getElem?_eq_getElem hj,e])).1) i
theorem Wk.met (W:Wk st es w k T pl) (hb:pl b) (hN:(ordK k T b N).length≤N) {i x c:Nat} (hx:(ordK k T b N)[i]? = some x) (hc:c < w):∃ t y,(T x)[c]? = some t∧pl t∧(rowsK k T (ordK k T b N))[i]? = some ((T x).map fun t=>((ordK k T b N).map k).idxOf (k t))∧stN (rowsK k T (ordK k T b N)) i c=((ordK k T b N).map k).idxOf (k t)∧(ordK k T b N)[((ordK k T b N).map k).idxOf (k t)]? = some y∧pl y∧Fut st es w y (stN st x c):=by
 have px:=W.all hb N x (List.mem_of_getElem? hx)
 have hl:=W.len x px
 have ht:(T x)[c]? = some ((T x)[c]'(by omega)):=List.getElem?_eq_getElem (by omega)
 generalize (T x)[c]'(by omega)=t at ht
 obtain ⟨pt,ft⟩:=W.tgt x px c t ht
 have hi:=(List.getElem?_eq_some_iff.mp hx).1
 have hm:=ordK_met (k:=k) (T:=T) (b:=b) (n:=N) hx (by omega) (List.mem_of_getElem? ht)
 have hd:=idx_at hm
 rw [List.getElem?_map] at hd
 have hrow:(rowsK k T (ordK k T b N))[i]? = some ((T x).map fun t=>((ordK k T b N).map k).idxOf (k t)):=by
  unfold rowsK
  rw [List.getElem?_map,hx]
  rfl
 cases hy:(ordK k T b N)[((ordK k T b N).map k).idxOf (k t)]? with
 | none=>rw [hy] at hd; cases hd
 | some y=>
  rw [hy] at hd
  have ky:k y=k t:=Option.some.inj hd
  have py:=W.all hb N y (List.mem_of_getElem? hy)
  have fy:=(W.key y t py pt).mp ky
  refine ⟨t,y,ht,pt,hrow,?_,hy,py,fun cs hcs=>(fy cs hcs).trans (ft cs hcs)⟩
  unfold stN
  rw [List.getD_eq_getElem?_getD (l:=rowsK k T (ordK k T b N)),hrow]
  show ((T x).map fun t=>((ordK k T b N).map k).idxOf (k t)).getD c 0=_
  rw [List.getD_eq_getElem?_getD,List.getElem?_map,ht]
  rfl
theorem Wk.tongue (W:Wk st es w k T pl) (hb:pl b) (hN:(ordK k T b N).length≤N):∀ (cs:List Nat) (i x:Nat),(∀ c∈cs,c < w)→(ordK k T b N)[i]? = some x→
  (wayN (rowsK k T (ordK k T b N)) i cs∈endsK (ordK k T b N) (fun x=>decide (x∈es))↔wayN st x cs∈es):=by
 intro cs
 induction cs with
 | nil=>
  intro i x _ hx
  show i∈endsK _ _↔x∈es
  unfold endsK
  rw [List.mem_filter,List.mem_range,List.getD_eq_getElem?_getD,hx]
  show _∧decide (x∈es)=true↔_
  rw [decide_eq_true_eq]
  exact ⟨fun h=>h.2,fun h=>⟨(List.getElem?_eq_some_iff.mp hx).1,h⟩⟩
 | cons c cs ih=>
  intro i x hc hx
  obtain ⟨t,y,ht,pt,hrow,hs,hy,py,fy⟩:=W.met hb hN hx (hc c List.mem_cons_self)
  have hcs:∀ c∈cs,c < w:=fun d hd=>hc d (List.mem_cons_of_mem _ hd)
  show wayN _ (stN _ i c) cs∈_↔_
  rw [hs,ih _ y hcs hy]
  exact fy cs hcs
theorem Wk.rect (W:Wk st es w k T pl) (hb:pl b) (hN:(ordK k T b N).length≤N):Rect (rowsK k T (ordK k T b N)) w:=by
 intro r hr
 have hlen:(rowsK k T (ordK k T b N)).length=(ordK k T b N).length:=by unfold rowsK; rw [List.length_map]
 obtain ⟨x,hx,rfl⟩:=List.mem_map.mp hr
 have px:=W.all hb N x hx
 refine ⟨by rw [List.length_map]; exact W.len x px,fun y hy=>?_⟩
 obtain ⟨t,ht,rfl⟩:=List.mem_map.mp hy
 obtain ⟨i,hi,e⟩:=List.getElem_of_mem hx
 have hm:=ordK_met (k:=k) (T:=T) (b:=b) (n:=N) (j:=i) (x:=x) (by rw [List.getElem?_eq_getElem hi,e]) (by omega) ht
 have:=List.idxOf_lt_length_of_mem hm
 rw [List.length_map] at this
 rw [hlen]
 exact this
end
theorem stp_at {l:Str} (nd:l.cps.toList.Nodup) {st:List (List Nat)} {x j c:Nat} (hc:l.cps.toList[j]? = some c):stp l st x c=stN st x j:=by
 have hl:=len_list l
 have hD:∀ v:Nat,v < l.length→l.cps.getD v 0=l.cps.toList.getD v 0:=fun v hv=>by
  rw [List.getD_eq_getElem?_getD,Array.getElem?_toList,Array.getD_eq_getD_getElem?]
 have hj:=(List.getElem?_eq_some_iff.mp hc).1
 have hf:Txt.find l (one c)=Txt.find3 l (one c) 0:=by
  unfold Txt.find Txt.find3
  rfl
 have key:(Txt.find l (one c)).toNat=j:=by
  rcases StrLaws.find3_spec l c 0 with ⟨_,hn⟩ | ⟨k,hk,_,hlt,hat⟩
  ·refine absurd ?_ (hn j ?_ (by omega))
   ·rw [hD j (by omega),List.getD_eq_getElem?_getD,hc]
    rfl
   ·show _≤j
    unfold PySem.fromIndex
    simp
  ·rw [hf]
   have e:Txt.find3 l (one c) 0=(k:Int):=hk
   rw [e]
   have e2:l.cps.getD k 0=c:=hat.1
   rw [hD k (by omega),List.getD_eq_getElem?_getD,List.getElem?_eq_getElem (by omega)] at e2
   have e3:l.cps.toList[k]'(by omega)=c:=e2
   have i1:=List.Nodup.idxOf_getElem nd k (by omega)
   have i2:=List.Nodup.idxOf_getElem nd j hj
   rw [(List.getElem?_eq_some_iff.mp hc).2] at i2
   rw [e3,i2] at i1
   omega
 unfold stp stN
 rw [key]
theorem wk_prog {l:Str} (nd:l.cps.toList.Nodup) {st:List (List Nat)} {es:List Nat} {k:Nat} (R:Rect st l.length) (few:dn (lkN st es (k+1))≤dn (lkN st es k)) :
  Wk st es l.length id (TL l (gL l st (lkN st es (k+1)))) fun x=>x < st.length∧(lkN st es (k+1)).getD x 0=x:=by
 have hl:=len_list l
 have lf:=lkN_firsts st es (k+1)
 have ll:=lkN_len st es (k+1)
 have le:=fun (i j:Nat) hi hj=>lk_end (i:=i) (j:=j) R few hi hj
 generalize lkN st es (k+1)=L at lf ll le
 refine ⟨fun x x' hx hx'=>?_,fun x hx=>?_,fun x hx j t ht=>?_⟩
 ·rw [← le x x' hx.1 hx'.1,hx.2,hx'.2]
  exact Iff.rfl
 ·unfold TL
  rw [List.length_map,hl]
 ·unfold TL at ht
  rw [List.getElem?_map] at ht
  cases hc:l.cps.toList[j]? with
  | none=>rw [hc] at ht; cases ht
  | some c=>
   rw [hc] at ht
   have e:gL l st L x c=t:=Option.some.inj ht
   have hj:=(List.getElem?_eq_some_iff.mp hc).1
   unfold gL at e
   rw [stp_at nd hc] at e
   have hs:=stN_lt R hx.1 (show j < l.length by omega)
   have l1:=lf.le (stN st x j) (by omega)
   have l2:=lf.own (stN st x j) (by omega)
   rw [e] at l1 l2
   exact ⟨⟨by omega,l2⟩,(le t (stN st x j) (by omega) hs).mp (by rw [l2,e])⟩
theorem dn_pat {L C:List Nat} (hl:L.length=C.length) (h:∀ i j,i < L.length→j < L.length→(L.getD i 0=L.getD j 0↔C.getD i 0=C.getD j 0)):dn L=dn C:=by
 have hv:∀ (L:List Nat) i,i < L.length→(L.map fun n:Nat=>(n:Int)).getD i 0=((L.getD i 0:Nat):Int):=fun L i hi=>by
  rw [List.getD_eq_getElem?_getD,List.getElem?_map,List.getElem?_eq_getElem hi,List.getD_eq_getElem?_getD,List.getElem?_eq_getElem hi]
  rfl
 have key:∀ n,n≤L.length→(firstMet (fun i=>(L.map fun n:Nat=>(n:Int)).getD i 0) n).length=(firstMet (fun i=>(C.map fun n:Nat=>(n:Int)).getD i 0) n).length:=fun n=>by
  induction n with
  | zero=>intro _; rfl
  | succ n ih=>
   intro hn
   rw [firstMet_succ,step_length,firstMet_succ,step_length,ih (by omega),firstMet_any,firstMet_any,hv L n (by omega),hv C n (by omega)]
   have e:((List.range n).map fun i=>(L.map fun n:Nat=>(n:Int)).getD i 0).any (· == ((L.getD n 0:Nat):Int))=((List.range n).map fun i=>(C.map fun n:Nat=>(n:Int)).getD i 0).any (· == ((C.getD n 0:Nat):Int)):=by
    rw [Bool.eq_iff_iff,List.any_eq_true,List.any_eq_true]
    constructor
    ·rintro ⟨x,hx,q⟩
     obtain ⟨j,hj,rfl⟩:=List.mem_map.mp hx
     have hj':=List.mem_range.mp hj
     have q2:=eq_of_beq q
     rw [hv L j (by omega)] at q2
     refine ⟨_,List.mem_map.mpr ⟨j,hj,rfl⟩,?_⟩
     rw [hv C j (by omega),(h j n (by omega) (by omega)).mp (by omega)]
     simp
    ·rintro ⟨x,hx,q⟩
     obtain ⟨j,hj,rfl⟩:=List.mem_map.mp hx
     have hj':=List.mem_range.mp hj
     have q2:=eq_of_beq q
     rw [hv C j (by omega)] at q2
     refine ⟨_,List.mem_map.mpr ⟨j,hj,rfl⟩,?_⟩
     rw [hv L j (by omega),(h j n (by omega) (by omega)).mpr (by omega)]
     simp
   rw [e]
 unfold dn metI
 rw [List.length_map,List.length_map,← hl]
 exact key _ (Nat.le_refl _)
def addR (o:List (List Nat)) (r:List Nat):List (List Nat):=if r∈o then o else o ++ [r]
def mets (rs:List (List Nat)):List (List Nat):=rs.foldl addR []
theorem addR_sub {o:List (List Nat)} {r x:List Nat} (h:x∈o):x∈addR o r:=by
 unfold addR
 by_cases c:r∈o
 ·rw [if_pos c]; exact h
 ·rw [if_neg c]; exact List.mem_append_left _ h
theorem addR_mem {o:List (List Nat)} {r:List Nat}:r∈addR o r:=by
 unfold addR
 by_cases c:r∈o
 ·rw [if_pos c]; exact c
 ·rw [if_neg c]; simp
theorem addR_len {o:List (List Nat)} {r:List Nat}:(addR o r).length≤o.length+1:=by
 unfold addR
 by_cases c:r∈o
 ·rw [if_pos c]; omega
 ·rw [if_neg c,List.length_append]; exact Nat.le_refl _
theorem mets_aux:∀ (rs o:List (List Nat)),(∀ x,(x∈o∨x∈rs)→x∈rs.foldl addR o)∧(rs.foldl addR o).length≤o.length+rs.length
 | [],o=>⟨fun x h=>h.resolve_right fun z=>(List.not_mem_nil z),Nat.le_refl _⟩
 | r :: rs,o=>by
  obtain ⟨a,b⟩:=mets_aux rs (addR o r)
  refine ⟨fun x h=>a x ?_,?_⟩
  ·rcases h with h | h
   ·exact .inl (addR_sub h)
   ·rcases List.mem_cons.mp h with z | z
    ·rw [z]; exact .inl addR_mem
    ·exact .inr z
  ·have:=addR_len (o:=o) (r:=r)
   show (rs.foldl addR (addR o r)).length≤_
   rw [List.length_cons]
   omega
theorem mets_mem {rs:List (List Nat)} {r:List Nat} (h:r∈rs):r∈mets rs:=(mets_aux rs []).1 r (.inr h)
theorem mets_len (rs:List (List Nat)):(mets rs).length≤rs.length:=by
 have:=(mets_aux rs []).2
 rw [List.length_nil,Nat.zero_add] at this
 exact this
theorem mets_snoc {rs:List (List Nat)} {r:List Nat} {i:Nat} (h:rs[i]? = some r):mets (rs.take (i+1))=addR (mets (rs.take i)) r:=by
 unfold mets
 rw [List.take_add_one,h,List.foldl_append]
 rfl
def lw0 (es:List Nat) (n:Nat):List Nat:=(List.range n).map fun r=>if decide (r∈es)=true then 1 else 0
def lwS (st:List (List Nat)) (L:List Nat):List Nat:=(lkR st L).map fun r=>(mets (lkR st L)).idxOf r
def lwN (st:List (List Nat)) (es:List Nat):Nat→List Nat
 | 0=>lw0 es st.length
 | k+1=>lwS st (lwN st es k)
theorem lwN_len (st:List (List Nat)) (es:List Nat):∀ k,(lwN st es k).length=st.length
 | 0=>by unfold lwN lw0; rw [List.length_map,List.length_range]
 | k+1=>by unfold lwN lwS lkR; rw [List.length_map,List.length_map,List.length_range]
theorem lwS_at {st:List (List Nat)} {L:List Nat} {i:Nat} (hi:i < st.length):(lwS st L).getD i 0=(mets (lkR st L)).idxOf (L.getD i 0 :: (st.getD i []).map fun x=>L.getD x 0):=by
 unfold lwS
 rw [List.getD_eq_getElem?_getD,List.getElem?_map,lkR_at hi]
 rfl
theorem lwS_lt {st:List (List Nat)} {L:List Nat} {i:Nat} (hi:i < st.length):(lwS st L).getD i 0 < st.length:=by
 rw [lwS_at hi]
 have h1:=List.idxOf_lt_length_of_mem (mets_mem (List.mem_of_getElem? (lkR_at (L:=L) hi)))
 have h2:=mets_len (lkR st L)
 have h3:(lkR st L).length=st.length:=by unfold lkR; rw [List.length_map,List.length_range]
 omega
theorem lw_lk {st:List (List Nat)} {es:List Nat} {w:Nat} (R:Rect st w):∀ k i j,i < st.length→j < st.length→((lwN st es k).getD i 0=(lwN st es k).getD j 0↔(lkN st es k).getD i 0=(lkN st es k).getD j 0)
 | 0,i,j,hi,hj=>by
  show _↔(lk0 es st.length).getD i 0=(lk0 es st.length).getD j 0
  rw [lk0_eq hi hj]
  have at_:∀ i,i < st.length→(lwN st es 0).getD i 0=if decide (i∈es)=true then 1 else 0:=fun i hi=>by
   show (lw0 es st.length).getD i 0=_
   unfold lw0
   rw [List.getD_eq_getElem?_getD,List.getElem?_map,List.getElem?_range hi]
   rfl
  rw [at_ i hi,at_ j hj]
  by_cases a:i∈es <;> by_cases b:j∈es <;> simp [a,b]
 | k+1,i,j,hi,hj=>by
  show _↔(lkS st (lkN st es k)).getD i 0=(lkS st (lkN st es k)).getD j 0
  rw [lkS_eq R hi hj]
  show (lwS st (lwN st es k)).getD i 0=(lwS st (lwN st es k)).getD j 0↔_
  rw [lwS_at hi,lwS_at hj]
  have m1:=mets_mem (List.mem_of_getElem? (lkR_at (L:=lwN st es k) hi))
  have m2:=mets_mem (List.mem_of_getElem? (lkR_at (L:=lwN st es k) hj))
  have li:=(R _ (getD_in (l:=st) (d:=[]) hi).1).1
  have lj:=(R _ (getD_in (l:=st) (d:=[]) hj).1).1
  constructor
  ·intro e
   have a:=idx_at m1
   rw [e,idx_at m2] at a
   have a2:=Option.some.inj a
   rw [List.cons.injEq] at a2
   refine ⟨(lw_lk R k i j hi hj).mp a2.1.symm,fun c hc=>(lw_lk R k _ _ (stN_lt R hi hc) (stN_lt R hj hc)).mp ?_⟩
   have a3:=congrArg (fun z:List Nat=>z[c]?) a2.2
   simp only [List.getElem?_map] at a3
   rw [(getD_in (l:=st.getD i []) (d:=0) (show c < _ by omega)).2,(getD_in (l:=st.getD j []) (d:=0) (show c < _ by omega)).2] at a3
   exact (Option.some.inj a3).symm
  ·rintro ⟨e1,e2⟩
   refine congrArg (mets (lkR st (lwN st es k))).idxOf ?_
   rw [List.cons.injEq]
   refine ⟨(lw_lk R k i j hi hj).mpr e1,List.ext_getElem? fun c=>?_⟩
   rw [List.getElem?_map,List.getElem?_map]
   rcases Nat.lt_or_ge c w with z | z
   ·rw [(getD_in (l:=st.getD i []) (d:=0) (show c < _ by omega)).2,(getD_in (l:=st.getD j []) (d:=0) (show c < _ by omega)).2]
    exact congrArg some ((lw_lk R k _ _ (stN_lt R hi z) (stN_lt R hj z)).mpr (e2 c z))
   ·rw [List.getElem?_eq_none (by omega),List.getElem?_eq_none (by omega)]
theorem lw_dn {st:List (List Nat)} {es:List Nat} {w:Nat} (R:Rect st w) (k:Nat):dn (lwN st es k)=dn (lkN st es k):=
 dn_pat (by rw [lwN_len,lkN_len]) fun i j hi hj=>lw_lk R k i j (by rw [lwN_len] at hi; exact hi) (by rw [lwN_len] at hj; exact hj)
theorem lw_end {st:List (List Nat)} {es:List Nat} {w k:Nat} (R:Rect st w) (few:dn (lwN st es (k+1))≤dn (lwN st es k)) {i j:Nat} (hi:i < st.length) (hj:j < st.length) :
  (lwN st es (k+1)).getD i 0=(lwN st es (k+1)).getD j 0↔Fut st es w i j:=by
 rw [lw_lk R (k+1) i j hi hj]
 exact lk_end R (by rw [← lw_dn R,← lw_dn R]; exact few) hi hj
def nbG {α κ:Type} (φ:α→κ):Nat→List α→List (κ × V)
 | _,[]=>[]
 | s,a :: o=>(φ a,nI s) :: nbG φ (s+1) o
section
variable {α κ:Type} [BEq α] [LawfulBEq α] [DecidableEq κ] {φ:α→κ}
theorem nbG_len:∀ (s:Nat) (o:List α),(nbG φ s o).length=o.length
 | _,[]=>rfl
 | s,_ :: o=>by show (nbG φ (s+1) o).length+1=_; rw [nbG_len]; rfl
theorem nbG_snoc (x:α):∀ (s:Nat) (o:List α),nbG φ s (o ++ [x])=nbG φ s o ++ [(φ x,nI (s+o.length))]
 | _,[]=>rfl
 | s,a :: o=>by
  show (φ a,nI s) :: nbG φ (s+1) (o ++ [x])=(φ a,nI s) :: (nbG φ (s+1) o ++ _)
  rw [nbG_snoc x (s+1) o,show s+1+o.length=s+(a :: o).length by rw [List.length_cons]; omega]
theorem nbG_no (inj:∀ x y,φ x=φ y→x=y) {x:α}:∀ (s:Nat) (o:List α),x∉o→valV (nbG φ s o) (φ x)=none
 | _,[],_=>rfl
 | s,a :: o,h=>by
  show valV ((φ a,nI s) :: nbG φ (s+1) o) (φ x)=none
  rw [valV_neg (fun z=>h (by rw [← inj _ _ z]; exact List.mem_cons_self))]
  exact nbG_no inj (s+1) o fun z=>h (List.mem_cons_of_mem _ z)
theorem nbG_yes (inj:∀ x y,φ x=φ y→x=y) {x:α}:∀ (s:Nat) (o:List α),x∈o→valV (nbG φ s o) (φ x)=some (nI (s+o.idxOf x))
 | _,[],h=>nomatch h
 | s,a :: o,h=>by
  show valV ((φ a,nI s) :: nbG φ (s+1) o) (φ x)=_
  by_cases c:a=x
  ·rw [valV_pos (by rw [c]),List.idxOf_cons,beq_iff_eq.mpr c]
   rfl
  ·rw [valV_neg (fun z=>c (inj _ _ z)),nbG_yes inj (s+1) o ((List.mem_cons.mp h).resolve_left fun z=>c z.symm),List.idxOf_cons,beq_eq_false_iff_ne.mpr c]
   show some (nI (s+1+o.idxOf x))=some (nI (s+(o.idxOf x+1)))
   rw [show s+1+o.idxOf x=s+(o.idxOf x+1) by omega]
end
theorem kI_map_inj:∀ (x y:List Nat),x.map kI=y.map kI→x=y
 | [],[],_=>rfl
 | [],_ :: _,h=>nomatch h
 | _ :: _,[],h=>nomatch h
 | a :: x,b :: y,h=>by
  rw [List.map_cons,List.map_cons,List.cons.injEq] at h
  rw [kI_inj h.1,kI_map_inj x y h.2]
theorem wk_law {st:List (List Nat)} {es:List Nat} {w:Nat} (R:Rect st w) {S:List Nat} (hS:∀ i j,i < st.length→j < st.length→(S.getD i 0=S.getD j 0↔Fut st es w i j)):Wk st es w (fun x=>S.getD x 0) (fun x=>st.getD x []) fun x=>x < st.length:=by
 refine ⟨fun x x' hx hx'=>hS x x' hx hx',fun x hx=>(R _ (getD_in (l:=st) (d:=[]) hx).1).1,fun x hx j t ht=>?_⟩
 have hr:=R _ (getD_in (l:=st) (d:=[]) hx).1
 have e:stN st x j=t:=by
  show (st.getD x []).getD j 0=t
  rw [List.getD_eq_getElem?_getD (l:=st.getD x []),ht]
  rfl
 rw [e]
 exact ⟨hr.2 t (List.mem_of_getElem? ht),fun cs _=>Iff.rfl⟩
structure PRes (l:Str) (st:List (List Nat)) (es:List Nat) (b:Nat) (stD:List (List Nat)) (esD:List Nat) (k N:Nat):Prop where
 rect:Rect st l.length
 beg:b < st.length
 few:dn (lkN st es (k+1))≤dn (lkN st es k)
 len:(ordK id (TL l (gL l st (lkN st es (k+1)))) ((lkN st es (k+1)).getD b 0) N).length≤N
 rows:rowsK id (TL l (gL l st (lkN st es (k+1)))) (ordK id (TL l (gL l st (lkN st es (k+1)))) ((lkN st es (k+1)).getD b 0) N)=stD
 ends:endsK (ordK id (TL l (gL l st (lkN st es (k+1)))) ((lkN st es (k+1)).getD b 0) N) (fun x=>decide (x∈es))=esD
theorem PRes.wk {l:Str} {st:List (List Nat)} {es:List Nat} {b:Nat} {stD:List (List Nat)} {esD:List Nat} {k N:Nat} (h:PRes l st es b stD esD k N):((lkN st es (k+1)).getD b 0 < st.length∧(lkN st es (k+1)).getD ((lkN st es (k+1)).getD b 0) 0=(lkN st es (k+1)).getD b 0)∧Fut st es l.length ((lkN st es (k+1)).getD b 0) b:=by
 have lf:=lkN_firsts st es (k+1)
 have ll:=lkN_len st es (k+1)
 have hb:=h.beg
 have l1:=lf.le b (by omega)
 have l2:=lf.own b (by omega)
 exact ⟨⟨by omega,l2⟩,(lk_end (i:=(lkN st es (k+1)).getD b 0) (j:=b) h.rect h.few (by omega) hb).mp l2⟩
structure LM (l:Str) (P:List Nat→Prop) (stD:List (List Nat)) (esD:List Nat):Prop where
 rect:Rect stD l.length
 pos:0 < stD.length
 ends:esD.length≤stD.length∧∀ e∈esD,e < stD.length
 lg:∀ cs,(∀ c∈cs,c < l.length)→(wayN stD 0 cs∈esD↔P cs)
 is:∃ st es b k N,PRes l st es b stD esD k N
theorem LM.of {l:Str} (nd:l.cps.toList.Nodup) {st:List (List Nat)} {es:List Nat} {b:Nat} {stD:List (List Nat)} {esD:List Nat} {k N:Nat} (h:PRes l st es b stD esD k N):LM l (fun cs=>wayN st b cs∈es) stD esD∧stD.length≤st.length:=by
 have W:=wk_prog nd h.rect h.few
 obtain ⟨w1,w2⟩:=h.wk
 have hpos:=ordK_pos (k:=id) (T:=TL l (gL l st (lkN st es (k+1)))) (b:=(lkN st es (k+1)).getD b 0) N
 have hlen:(ordK id (TL l (gL l st (lkN st es (k+1)))) ((lkN st es (k+1)).getD b 0) N).length≤st.length:=ordK_len (P:=fun x=>x < st.length∧(lkN st es (k+1)).getD x 0=x) w1 (fun x hx y hy=>by
  obtain ⟨j,hj,e⟩:=List.getElem_of_mem hy
  exact (W.tgt x hx j y (by rw [List.getElem?_eq_getElem hj,e])).1) (fun x hx=>hx.1) N
 have hr:=W.rect w1 h.len
 have ht:∀ cs,(∀ c∈cs,c < l.length)→_:=fun cs hc=>W.tongue w1 h.len cs 0 _ hc hpos.2
 have hrl:(rowsK id (TL l (gL l st (lkN st es (k+1)))) (ordK id (TL l (gL l st (lkN st es (k+1)))) ((lkN st es (k+1)).getD b 0) N)).length=(ordK id (TL l (gL l st (lkN st es (k+1)))) ((lkN st es (k+1)).getD b 0) N).length:=by unfold rowsK; rw [List.length_map]
 have hel:∀ e∈endsK (ordK id (TL l (gL l st (lkN st es (k+1)))) ((lkN st es (k+1)).getD b 0) N) (fun x=>decide (x∈es)),e < (ordK id (TL l (gL l st (lkN st es (k+1)))) ((lkN st es (k+1)).getD b 0) N).length:=fun e he=>by
  unfold endsK at he
  exact List.mem_range.mp (List.mem_filter.mp he).1
 have hen:(endsK (ordK id (TL l (gL l st (lkN st es (k+1)))) ((lkN st es (k+1)).getD b 0) N) (fun x=>decide (x∈es))).length≤(ordK id (TL l (gL l st (lkN st es (k+1)))) ((lkN st es (k+1)).getD b 0) N).length:=by
  unfold endsK
  exact Nat.le_trans (List.length_filter_le _ _) (by rw [List.length_range]; exact Nat.le_refl _)
 rw [h.rows] at hr hrl ht
 rw [h.ends] at hel hen ht
 have hp:=hpos.1
 exact ⟨⟨hr,by omega,⟨by omega,fun e he=>by have:=hel e he; omega⟩,fun cs hc=>(ht cs hc).trans (w2 cs hc),⟨st,es,b,k,N,h⟩⟩,by omega⟩
theorem LM.cong {l:Str} {P Q:List Nat→Prop} {stD:List (List Nat)} {esD:List Nat} (h:LM l P stD esD) (q:∀ cs,(∀ c∈cs,c < l.length)→(P cs↔Q cs)):LM l Q stD esD:=⟨h.rect,h.pos,h.ends,fun cs hc=>(h.lg cs hc).trans (q cs hc),h.is⟩
theorem LM.uniq {l:Str} (nd:l.cps.toList.Nodup) {P Q:List Nat→Prop} {st1:List (List Nat)} {es1:List Nat} {st2:List (List Nat)} {es2:List Nat} (h1:LM l P st1 es1) (h2:LM l Q st2 es2) (q:∀ cs,(∀ c∈cs,c < l.length)→(P cs↔Q cs)):st1=st2∧es1=es2:=by
 obtain ⟨s1,e1,b1,k1,n1,p1⟩:=h1.is
 obtain ⟨s2,e2,b2,k2,n2,p2⟩:=h2.is
 obtain ⟨a1,f1⟩:=p1.wk
 obtain ⟨a2,f2⟩:=p2.wk
 have g1:=(LM.of nd p1).1.lg
 have g2:=(LM.of nd p2).1.lg
 have:=same_least (wk_prog nd p1.rect p1.few) (wk_prog nd p2.rect p2.few) a1 a2 (fun cs hc=>(f1 cs hc).trans (((g1 cs hc).symm.trans ((h1.lg cs hc).trans ((q cs hc).trans ((h2.lg cs hc).symm.trans (g2 cs hc))))).trans (f2 cs hc).symm)) p1.len p2.len
 rw [p1.rows,p1.ends,p2.rows,p2.ends] at this
 exact this
theorem LM.mach {l:Str} {P:List Nat→Prop} {stD:List (List Nat)} {esD:List Nat} (D:LM l P stD esD) (hl:0 < l.length∧l.length≤3) (hs:stD.length≤216) {H':Hp} {m':Addr} (h:MLay H' m' l 0 esD stD):MachAt H' m' l 0 esD stD:=⟨h,⟨hl.1,hl.2,hs⟩,D.pos,D.rect⟩
def fx (l:Str) (c:Nat):Nat:=(Txt.find l (one c)).toNat
theorem way_N (l:Str) (st:List (List Nat)):∀ (t:List Nat) (r:Nat),way l st r t=wayN st r (t.map (fx l))
 | [],_=>rfl
 | c :: t,r=>way_N l st t (stp l st r c)
theorem fx_all {l:Str} {t:List Nat} (h:∀ c∈t,c∈l.cps.toList):∀ c∈t.map (fx l),c < l.length:=fun c hc=>by
 obtain ⟨d,hd,rfl⟩:=List.mem_map.mp hc
 exact (find_in (h d hd)).2
theorem wayN_app (st:List (List Nat)) (r:Nat) (a b:List Nat):wayN st r (a ++ b)=wayN st (wayN st r a) b:=by unfold wayN; rw [List.foldl_append]
theorem wayN_lt {st:List (List Nat)} {w:Nat} (R:Rect st w):∀ (cs:List Nat) (r:Nat),r < st.length→(∀ c∈cs,c < w)→wayN st r cs < st.length
 | [],_,hr,_=>hr
 | c :: cs,r,hr,h=>wayN_lt R cs (stN st r c) (stN_lt R hr (h c List.mem_cons_self)) fun d hd=>h d (List.mem_cons_of_mem _ hd)
theorem all_app {w:Nat} {a b:List Nat} (ha:∀ c∈a,c < w) (hb:∀ c∈b,c < w):∀ c∈a ++ b,c < w:=fun c hc=>(List.mem_append.mp hc).elim (ha c) (hb c)
theorem walk_tongue {T:Nat→List Nat} {pl:Nat→Prop} {e:Nat→Bool} {b w N:Nat} (hb:pl b) (hlen:∀ x,pl x→(T x).length=w) (hpl:∀ x,pl x→∀ y∈T x,pl y) (hN:(ordK id T b N).length≤N):∀ (cs:List Nat) (i x:Nat),(∀ c∈cs,c < w)→(ordK id T b N)[i]? = some x→
  (wayN (rowsK id T (ordK id T b N)) i cs∈endsK (ordK id T b N) e↔e (cs.foldl (fun x c=>(T x).getD c 0) x)=true):=by
 have hall:=ordK_all (k:=id) hb hpl N
 intro cs
 induction cs with
 | nil=>
  intro i x _ hx
  show i∈endsK _ _↔e x=true
  unfold endsK
  rw [List.mem_filter,List.mem_range,List.getD_eq_getElem?_getD,hx]
  exact ⟨fun h=>h.2,fun h=>⟨(List.getElem?_eq_some_iff.mp hx).1,h⟩⟩
 | cons c cs ih=>
  intro i x hc hx
  have px:=hall x (List.mem_of_getElem? hx)
  have hcw:=hc c List.mem_cons_self
  have hi:=(List.getElem?_eq_some_iff.mp hx).1
  have ht:=(getD_in (l:=T x) (i:=c) (d:=0) (by rw [hlen x px]; exact hcw))
  have hm:=ordK_met (k:=id) (T:=T) (b:=b) (n:=N) hx (by omega) ht.1
  rw [List.map_id] at hm
  have hm':(T x).getD c 0∈ordK id T b N:=hm
  have hrow:stN (rowsK id T (ordK id T b N)) i c=(ordK id T b N).idxOf ((T x).getD c 0):=by
   unfold stN rowsK
   rw [List.getD_eq_getElem?_getD (l:=List.map _ _),List.getElem?_map,hx]
   show ((T x).map fun t=>((ordK id T b N).map id).idxOf (id t)).getD c 0=_
   rw [List.getD_eq_getElem?_getD (l:=List.map _ _),List.getElem?_map,ht.2,List.map_id]
   rfl
  show wayN _ (stN _ i c) cs∈_↔_
  rw [hrow,ih _ _ (fun d hd=>hc d (List.mem_cons_of_mem _ hd)) (idx_at hm')]
  exact Iff.rfl
theorem walk_rect {T:Nat→List Nat} {pl:Nat→Prop} {b w N:Nat} (hb:pl b) (hlen:∀ x,pl x→(T x).length=w) (hpl:∀ x,pl x→∀ y∈T x,pl y) (hN:(ordK id T b N).length≤N):Rect (rowsK id T (ordK id T b N)) w:=by
 have hall:=ordK_all (k:=id) hb hpl N
 intro r hr
 have hrl:(rowsK id T (ordK id T b N)).length=(ordK id T b N).length:=by unfold rowsK; rw [List.length_map]
 obtain ⟨x,hx,rfl⟩:=List.mem_map.mp hr
 refine ⟨by rw [List.length_map]; exact hlen x (hall x hx),fun y hy=>?_⟩
 obtain ⟨t,ht,rfl⟩:=List.mem_map.mp hy
 obtain ⟨i,hi,e⟩:=List.getElem_of_mem hx
 have hm:=ordK_met (k:=id) (T:=T) (b:=b) (n:=N) (j:=i) (x:=x) (by rw [List.getElem?_eq_getElem hi,e]) (by omega) ht
 have:=List.idxOf_lt_length_of_mem hm
 rw [List.length_map] at this
 rw [hrl]
 exact this
theorem pair_div {n x y:Nat} (hy:y < n):(x * n+y) / n=x∧(x * n+y) % n=y:=by
 have hn:0 < n:=by omega
 constructor
 ·rw [Nat.add_comm,Nat.add_mul_div_right _ _ hn,Nat.div_eq_of_lt hy,Nat.zero_add]
 ·rw [Nat.add_comm,Nat.add_mul_mod_self_right,Nat.mod_eq_of_lt hy]
theorem pair_lt {n1 n2 x y:Nat} (hx:x < n1) (hy:y < n2):x * n2+y < n1 * n2:=by
 have:(x+1) * n2≤n1 * n2:=Nat.mul_le_mul_right _ hx
 rw [Nat.succ_mul] at this
 omega
def gP (l:Str) (st1 st2:List (List Nat)) (x c:Nat):Nat:=stp l st1 (x / st2.length) c * st2.length+stp l st2 (x % st2.length) c
def kP (n2 x:Nat):List Key:=[kI (x / n2),kI (x % n2)]
theorem kP_inj {n2 x y:Nat} (h:kP n2 x=kP n2 y):x=y:=by
 unfold kP at h
 rw [List.cons.injEq,List.cons.injEq] at h
 have h1:=kI_inj h.1
 have h2:=kI_inj h.2.1
 have a:=Nat.div_add_mod x n2
 have b:=Nat.div_add_mod y n2
 rw [h1,h2] at a
 omega
theorem gP_fold {l:Str} (nd:l.cps.toList.Nodup) {st1 st2:List (List Nat)} (R1:Rect st1 l.length) (R2:Rect st2 l.length):∀ (cs:List Nat) (x y:Nat),x < st1.length→y < st2.length→(∀ c∈cs,c < l.length)→cs.foldl (fun x c=>(TL l (gP l st1 st2) x).getD c 0) (x * st2.length+y)=wayN st1 x cs * st2.length+wayN st2 y cs
 | [],_,_,_,_,_=>rfl
 | c :: cs,x,y,hx,hy,hc=>by
  have hcl:=hc c List.mem_cons_self
  have ll:=len_list l
  have hcc:l.cps.toList[c]? = some (l.cps.toList[c]'(by omega)):=List.getElem?_eq_getElem (by omega)
  have e:(TL l (gP l st1 st2) (x * st2.length+y)).getD c 0=stN st1 x c * st2.length+stN st2 y c:=by
   unfold TL
   rw [List.getD_eq_getElem?_getD,List.getElem?_map,hcc]
   show gP l st1 st2 (x * st2.length+y) _=_
   unfold gP
   rw [(pair_div hy).1,(pair_div hy).2,stp_at nd hcc,stp_at nd hcc]
  show cs.foldl _ ((TL l (gP l st1 st2) (x * st2.length+y)).getD c 0)=_
  rw [e]
  exact gP_fold nd R1 R2 cs _ _ (stN_lt R1 hx hcl) (stN_lt R2 hy hcl) fun d hd=>hc d (List.mem_cons_of_mem _ hd)
theorem Tk.t {Pt:Addr} {L:List (Pos × Str)} {H H':Hp} (e:SameT Pt H H') (t:Tb Pt L H):Tk H H':=fun b ys h=>e b _ (fun z=>by
 obtain ⟨ps,hp,_⟩:=t
 rw [z,hp] at h
 cases h) h
theorem MLay.keep {H H':Hp} {m:Addr} {l:Str} {b:Nat} {es:List Nat} {st:List (List Nat)} (h:MLay H m l b es st) (k:Tk H H'):MLay H' m l b es st:=by
 obtain ⟨e,s,ras,h1,h2,h3,h4,h5⟩:=h
 exact ⟨e,s,ras,k _ _ h1,k _ _ h2,k _ _ h3,h4,fun i a r q1 q2=>k _ _ (h5 i a r q1 q2)⟩
theorem MachAt.keep {H H':Hp} {m:Addr} {l:Str} {b:Nat} {es:List Nat} {st:List (List Nat)} (h:MachAt H m l b es st) (k:Tk H H'):MachAt H' m l b es st:=⟨MLay.keep (b:=b) h.lay k,h.few,h.beg,h.rows⟩
theorem Tb.sameT {Pt P2:Addr} {L L2:List (Pos × Str)} {H H':Hp} (t:Tb P2 L2 H) (t1:Tb Pt L H) (n:P2≠Pt) (e:SameT Pt H H'):Tb P2 L2 H':=by
 obtain ⟨ps,h1,h2,h3⟩:=t
 obtain ⟨qs,g1,_⟩:=t1
 exact ⟨ps,e _ _ n h1,h2,fun x hx=>(h3 x hx).imp id fun ⟨c,a,b⟩=>⟨c,a,e _ _ (ne_of b g1 fun z=>nomatch z) b⟩⟩
def LeastTold (Pt:Addr) (l:Str) (P:List Nat→Prop) (n:Nat) (H:Hp) (Q:VK):Prop:=∀ m' stD esD H',SameT Pt H H'→Tb Pt tabLeast H'→LM l P stD esD→stD.length≤n→MLay H' m' l 0 esD stD→Q (.ref m') H'
inductive spLeastLI (Pt:Addr) (vs:List V) (H:Hp) (Q:VK):Prop
 | mk (m:Addr) (l:Str) (b:Nat) (es:List Nat) (st:List (List Nat)) (h1:vs=[.ref m]) (h2:MachAt H m l b es st) (h3:es.length≤500) (h4:l.cps.toList.Nodup) (h5:Tb Pt tabLeast H) (h6:LeastTold Pt l (fun cs=>wayN st b cs∈es) st.length H Q):spLeastLI Pt vs H Q
def spLeastL (Pt:Addr):Sp:=fun vs H Q u3_=>spLeastLI Pt vs H Q
theorem leastL_imp {Pt:Addr}:∀ vs H Q E,spLeastL Pt vs H Q E→spLeast Pt vs H Q E:=by
 rintro vs H Q E ⟨m,l,b,es,st,rfl,M,hes,nd,T,k⟩
 refine ⟨m,l,b,es,st,rfl,M,hes,T,fun m' k' N H' e T' few hN hL=>?_⟩
 have h:=LM.of nd (stD:=_) (esD:=_) (k:=k') (N:=N) ⟨M.rows,M.beg,few,hN,rfl,rfl⟩
 exact k m' _ _ H' e T' h.1 h.2 hL
inductive spPairBI (vs:List V) (H:Hp) (Q:VK):Prop
 | mk (m1 m2 a:Addr) (l:Str) (b1 b2:Nat) (es1 es2:List Nat) (st1 st2:List (List Nat)) (x y c:Nat) (h1:vs=[.ref m1,.ref m2,.ref a,.str (one c)]) (h2:MachAt H m1 l b1 es1 st1) (h3:MachAt H m2 l b2 es2 st2) (h4:H a=some (.tup [nI x,nI y])) (h5:x < st1.length) (h6:y < st2.length) (h7:c∈l.cps.toList) (h8:∀ r H',Same H H'→H' r=some (.tup [nI (stp l st1 x c),nI (stp l st2 y c)])→Q (.ref r) H'):spPairBI vs H Q
def spPairB:Sp:=fun vs H Q u3_=>spPairBI vs H Q
theorem ok_pair_behind {f:Addr} {fd:FuncData} (F:Fun K "pair_behind" "pair_behind" s_pair_behind f fd) (Z:Blt mg) (C_room_behind:Cal P w K mg base "room_behind" 1 ["machine","room","text"] spRoom):FnOk P w K mg base CX0 2 f fd ["one","other","pair","letter"] spPairB:=by
 refine F.ok sc_pair_behind (fun vs H Q E h=>?_) (fun cdv A outer s H vs Q E hr h=>?_)
 ·obtain ⟨m1,m2,a,l,b1,b2,es1,es2,st1,st2,x,y,c,rfl,_⟩:=h
  rfl
 obtain ⟨m1,m2,a,l,b1,b2,es1,es2,st1,st2,x,y,c,rfl,M1,M2,ha,hx,hy,hc,k⟩:=h
 refine ⟨_,(pss_one (ps_ret (pe_tup (pa_cons (pe_c C_room_behind (hr.mono (by decide)) (pa_cons (pv 0) (pa_cons (pe_ix (ix_tupK (K:=K)) (pv 2) pe_int (fun _ _=>rfl)) (pa_cons (pv 3) pa_nil)))) (pa_cons (pe_c C_room_behind (hr.mono (by decide)) (pa_cons (pv 1) (pa_cons (pe_ix (ix_tupK (K:=K)) (pv 2) pe_int (fun _ _=>rfl)) (pa_cons (pv 3) pa_nil)))) pa_nil))))),?_⟩
 have hcc:∀ d∈(one c).cps.toList,d∈l.cps.toList:=fun d hd=>by rw [List.mem_singleton.mp hd]; exact hc
 refine ⟨_,rfl,_,rfl,a,_,_,_,rfl,rfl,SqT.of ha,atI_nat (j:=0) rfl,_,rfl,m1,l,b1,es1,st1,x,one c,rfl,M1,hx,hcc,?_⟩
 refine ⟨_,rfl,_,rfl,a,_,_,_,rfl,rfl,SqT.of ha,atI_nat (j:=1) rfl,_,rfl,m2,l,b2,es2,st2,y,one c,rfl,M2,hy,hcc,(by show 2≤sizeLine; decide),fun r hr=>?_⟩
 exact k r _ (same_new hr _) upd_same
inductive spFitI (vs:List V) (H:Hp) (Q:VK):Prop
 | mk (m1 m2:Addr) (l:Str) (b1 b2:Nat) (es1 es2:List Nat) (st1 st2:List (List Nat)) (h1:vs=[.ref m1,.ref m2]) (h2:MachAt H m1 l b1 es1 st1) (h3:MachAt H m2 l b2 es2 st2) (h4:Q .non H):spFitI vs H Q
def spFit:Sp:=fun vs H Q u3_=>spFitI vs H Q
theorem ok_look_fit {f:Addr} {fd:FuncData} (F:Fun K "look_fit" "look_fit" s_look_fit f fd) (Z:Blt mg):FnOk P w K mg base CX0 1 f fd ["one","other"] spFit:=by
 refine F.ok sc_look_fit (fun vs H Q E h=>?_) (fun cdv A outer s H vs Q E hr h=>?_)
 ·obtain ⟨m1,m2,l,b1,b2,es1,es2,st1,st2,rfl,_⟩:=h
  rfl
 obtain ⟨m1,m2,l,b1,b2,es1,es2,st1,st2,rfl,M1,M2,k⟩:=h
 refine ⟨_,(pss_one (ps_if (pt_cmpR op_ne (pe_ix (ix_tupK (K:=K)) (pv 0) pe_int (fun _ _=>rfl)) (pe_ix (ix_tupK (K:=K)) (pv 1) pe_int (fun _ _=>rfl)) (nomark _)) 
    (pss_one ps_dead) pss_nil)),?_⟩
 obtain ⟨e1,s1,ras1,h1,_⟩:=M1.lay
 obtain ⟨e2,s2,ras2,h2,_⟩:=M2.lay
 refine ⟨_,rfl,m1,_,_,_,rfl,rfl,SqT.of h1,atI_nat (j:=0) rfl,_,rfl,m2,_,_,_,rfl,rfl,SqT.of h2,atI_nat (j:=0) rfl,rfl,_,rfl,?_⟩
 exact ifN (by simp) k
abbrev tabBoth:List (Pos × Str):=[(⟨80,4,81,52⟩,"both" ++ ".<locals>." ++ "step"),(⟨83,4,84,56⟩,"both" ++ ".<locals>." ++ "is_end")]
def Kp2 (P1 P2:Addr) (H H':Hp):Prop:=∀ b o,b≠P1→b≠P2→H b=some o→H' b=some o
theorem Kp2.trans {P1 P2:Addr} {H H1 H2:Hp} (a:Kp2 P1 P2 H H1) (b:Kp2 P1 P2 H1 H2):Kp2 P1 P2 H H2:=fun c o n1 n2 h=>b c o n1 n2 (a c o n1 n2 h)
def BothTold (Pb Pl:Addr) (l:Str) (P:List Nat→Prop) (n:Nat) (H:Hp) (Q:VK):Prop:=∀ m' stD esD H',Kp2 Pb Pl H H'→Tb Pb tabBoth H'→Tb Pl tabLeast H'→LM l P stD esD→stD.length≤n→MLay H' m' l 0 esD stD→Q (.ref m') H'
inductive spBothI (Pb:Addr) (Pl:Addr) (vs:List V) (H:Hp) (Q:VK):Prop
 | mk (m1 m2:Addr) (l:Str) (b1 b2:Nat) (es1 es2:List Nat) (st1 st2:List (List Nat)) (h1:vs=[.ref m1,.ref m2]) (h2:MachAt H m1 l b1 es1 st1) (h3:MachAt H m2 l b2 es2 st2) (h4:st1.length * st2.length≤216) (h5:l.cps.toList.Nodup) (h6:Tb Pb tabBoth H) (h7:Tb Pl tabLeast H) (h8:Pb≠Pl) (h9:BothTold Pb Pl l (fun cs=>wayN st1 b1 cs∈es1∧wayN st2 b2 cs∈es2) (st1.length * st2.length) H Q):spBothI Pb Pl vs H Q
def spBoth (Pb Pl:Addr):Sp:=fun vs H Q u3_=>spBothI Pb Pl vs H Q
theorem ok_both {f:Addr} {fd:FuncData} (F:Fun K "both" "both" s_both f fd) (Z:Blt mg) {cw Pb Pl:Addr} (hcode:fd.code=.ref cw) (CH:PySem.W.CodeHd base cw Pb) (BM:BltM mg base) (C_look_fit:Cal P w K mg base "look_fit" 1 ["one","other"] spFit)
  (CM:∀ base,Cal P w K mg base "machine_from" 5 ["letters","begin","step","is_end"] (spMFT P w K mg base 3)) (CB:∀ base,Cal P w K mg base "pair_behind" 2 ["one","other","pair","letter"] spPairB) (C_least:Cal P w K mg base "least" 5 ["machine"] (spLeastL Pl)):FnOk P w K mg base CX0 6 f fd ["one","other"] (spBoth Pb Pl):=by
 refine F.okC sc_both (fun vs H Q E h=>?_) (fun A outer s H vs Q E hr h=>?_)
 ·obtain ⟨m1,m2,l,b1,b2,es1,es2,st1,st2,rfl,_⟩:=h
  rfl
 obtain ⟨m1,m2,l,b1,b2,es1,es2,st1,st2,rfl,M1,M2,hmul,nd,TB,TL0,nbl,k⟩:=h
 have tabU_step:∀ x∈tabBoth,x.1.line=(⟨80,4,81,52⟩:Pos).line→x.1.col=(⟨80,4,81,52⟩:Pos).col→x.2 = "both" ++ ".<locals>." ++ "step":=fun x hx h1 _=>by
  rcases List.mem_cons.mp hx with z | z
  ·rw [z]
  ·rw [List.mem_singleton.mp z] at h1
   exact absurd h1 (by decide)
 have tabU_is_end:∀ x∈tabBoth,x.1.line=(⟨83,4,84,56⟩:Pos).line→x.1.col=(⟨83,4,84,56⟩:Pos).col→x.2 = "both" ++ ".<locals>." ++ "is_end":=fun x hx h1 _=>by
  rcases List.mem_cons.mp hx with z | z
  ·rw [z] at h1
   exact absurd h1 (by decide)
  ·rw [List.mem_singleton.mp z]
 let tabL:=tabBoth
 have C_machine_from:=CM base
 refine ⟨_,(pss_cons (ps_expr (pe_c C_look_fit (hr.mono (by decide)) (pa_cons (pv 0) (pa_cons (pv 1) pa_nil)))) 
   (pss_cons (ps_nest (i:=2) (L:=tabL) (sc:=defScope s_both) sc_both.nd (by rfl) (Or.inl (by rfl)) hcode CH BM (by first | exact List.mem_cons_self | exact List.mem_cons_of_mem _ List.mem_cons_self) tabU_step) 
   (pss_cons (ps_nest (i:=3) (L:=tabL) (sc:=defScope s_both) sc_both.nd (by rfl) (Or.inl (by rfl)) hcode CH BM (by first | exact List.mem_cons_self | exact List.mem_cons_of_mem _ List.mem_cons_self) tabU_is_end) 
   (pss_one (ps_ret (pe_c C_least (hr.mono (by decide)) (pa_cons (pe_cE C_machine_from (hr.mono (by decide)) (pa_cons (pe_ix (ix_tupK (K:=K)) (pv 0) pe_int (fun _ _=>rfl)) (pa_cons (pe_tup (pa_cons (pe_ix (ix_tupK (K:=K)) (pv 0) pe_int (fun _ _=>rfl)) (pa_cons (pe_ix (ix_tupK (K:=K)) (pv 1) pe_int (fun _ _=>rfl)) pa_nil))) (pa_cons (pv 2) (pa_cons (pv 3) pa_nil))))) pa_nil))))))),?_⟩
 refine (let zz0:TS:=_; let zz1:TS:=tSeq _ zz0; let zz2:TS:=tSeq _ zz1; (?_:tSeq _ zz2 _ _ _))
 have hn1:=M1.beg
 have hn2:=M2.beg
 have R1:Rect st1 l.length:=M1.rows
 have R2:Rect st2 l.length:=M2.rows
 have hTP:∀ {H:Hp} {a:Addr} {xs:List V},Tb Pb tabBoth H→H a=some (.tup xs)→a≠Pb:=fun hT h z=>by
  obtain ⟨ps,hp,_⟩:=hT
  rw [z,hp] at h
  cases h
 refine ⟨_,rfl,_,rfl,m1,m2,l,b1,b2,es1,es2,st1,st2,rfl,M1,M2,?_⟩
 refine ⟨TB,fun H1 f1 c1 ct1 doc1 e1 T1 hf10 hf1 hc1=>?_⟩
 refine ⟨T1,fun H2 f2 c2 ct2 doc2 e2 T2 hf20 hf2 hc2=>?_⟩
 have k1:=Tk.t e1 TB
 have k2:=k1.trans (Tk.t e2 T1)
 have M12:=M1.keep k2
 have M22:=M2.keep k2
 have TL2:Tb Pl tabLeast H2:=Tb.sameT (Tb.sameT TL0 TB nbl.symm e1) T1 nbl.symm e2
 have hf12:=e2 _ _ (fun z=>by
  obtain ⟨ps,hp,_⟩:=T1
  rw [z,hp] at hf1
  cases hf1) hf1
 have hc12:=e2 _ _ (fun z=>by
  obtain ⟨ps,hp,_⟩:=T1
  rw [z,hp] at hc1
  cases hc1) hc1
 obtain ⟨eA,sA,rA,g1,g2,g3,g4,g5⟩:=M12.lay
 obtain ⟨eB,sB,rB,p1,p2,p3,p4,p5⟩:=M22.lay
 refine ⟨_,rfl,m1,_,_,_,rfl,rfl,SqT.of g1,atI_nat (j:=0) rfl,_,rfl,m1,_,_,_,rfl,rfl,SqT.of g1,atI_nat (j:=1) rfl,_,rfl,m2,_,_,_,rfl,rfl,SqT.of p1,atI_nat (j:=1) rfl,(by show 2≤sizeLine; decide),fun a0 ha0=>⟨_,rfl,_,rfl,fun base' B=>?_⟩⟩
 have s3:=same_new ha0 (.tup [nI b1,nI b2])
 have h3a:upd H2 a0 (.tup [nI b1,nI b2]) a0=some (.tup [nI b1,nI b2]):=upd_same
 have M13:=M12.same s3
 have M23:=M22.same s3
 have hf13:=s3 _ _ hf12
 have hf23:=s3 _ _ hf2
 have hc13:=s3 _ _ hc12
 have hc23:=s3 _ _ hc2
 have T3:=T2.same s3
 have TL3:=TL2.same s3
 generalize upd H2 a0 (.tup [nI b1,nI b2])=H3 at s3 h3a M13 M23 hf13 hf23 hc13 hc23 T3 TL3
 have C_pair_behind:=CB base'
 have hpl:∀ x,x < st1.length * st2.length→x / st2.length < st1.length∧x % st2.length < st2.length:=fun x hx=>⟨Nat.div_lt_of_lt_mul (by rw [Nat.mul_comm]; exact hx),Nat.mod_lt _ (by omega)⟩
 have hgP:∀ x c,x < st1.length * st2.length→c∈l.cps.toList→gP l st1 st2 x c < st1.length * st2.length:=fun x c hx hc=>pair_lt (stp_lt M1 (hpl x hx).1 hc) (stp_lt M2 (hpl x hx).2 hc)
 have kv:∀ x,(kP st2.length x).map kV=[nI (x / st2.length),nI (x % st2.length)]:=fun x=>rfl
 have hbb:(b1 * st2.length+b2) / st2.length=b1∧(b1 * st2.length+b2) % st2.length=b2:=pair_div hn2
 refine ⟨_,_,CM base',f1,_,["pair","letter"],f2,_,["pair"],l,a0,b1 * st2.length+b2,gP l st1 st2,(fun x=>decide (x / st2.length∈es1) && decide (x % st2.length∈es2)),kP st2.length,(fun x=>x < st1.length * st2.length),(fun H=>MachAt H m1 l b1 es1 st1∧MachAt H m2 l b2 es2 st2∧H c1=some (CdO c1 ("both" ++ ".<locals>." ++ "step"))∧H c2=some (CdO c2 ("both" ++ ".<locals>." ++ "is_end"))),?_,?_,?_,?_,?_,rfl,?_,pair_lt hn1 hn2,fun x hx=>⟨Nat.lt_of_lt_of_le hx hmul,fun c hc=>hgP x c hx hc⟩,fun x y _ _ h=>kP_inj h,M1.few.2.1,hf13,hf23,⟨M13,M23,hc13,hc23⟩,fun m3 H4 N e4 hN hM=>?_⟩
 ·refine def_ok (N:=["pair","letter","one","other"]) (fv:=[.ref m1,.ref m2]) ⟨rfl,rfl,rfl,by decide,rfl,by decide +kernel,by decide +kernel⟩ (B.cl (sc:=defScope s_both) [0,1] rfl (by decide +kernel) rfl rfl (fun j i x a b=>?_) (fun j i x a b=>?_)) (fun vs H Q E h=>?_) (fun vs H Q E h=>?_) (fun A outer s H vs Q E hr h=>?_)
  ·match j,a,b with
   | 0,a,b=>cases a; cases b; exact ⟨rfl,rfl⟩
   | 1,a,b=>cases a; cases b; exact ⟨rfl,rfl⟩
   | j+2,a,_=>simp at a
  ·match j,a,b with
   | 0,a,b=>cases a; cases b; rfl
   | 1,a,b=>cases a; cases b; rfl
   | j+2,a,_=>simp at a
  ·obtain ⟨a,x,c,rfl,_⟩:=h
   rfl
  ·obtain ⟨a,x,c,rfl,_,_,_,h1,h2,_⟩:=h
   exact ⟨h1,h2.2.2.1⟩
  ·obtain ⟨a,x,c,rfl,ha,hx,hc,h1,⟨q1,q2,_,_⟩,k⟩:=h
   refine ⟨_,(pss_one (ps_ret (pe_c C_pair_behind (hr.mono (by decide)) (pa_cons (pv 2) (pa_cons (pv 3) (pa_cons (pv 0) (pa_cons (pv 1) pa_nil))))))),?_⟩
   refine ⟨_,rfl,_,rfl,_,rfl,_,rfl,m1,m2,a,l,b1,b2,es1,es2,st1,st2,x / st2.length,x % st2.length,c,rfl,q1,q2,ha,(hpl x hx).1,(hpl x hx).2,hc,fun r H' e' hr'=>k r H' e' ?_⟩
   rw [kv]
   have hd:=pair_div (x:=stp l st1 (x / st2.length) c) (stp_lt M2 (hpl x hx).2 hc)
   show H' r=some (.tup [nI (gP l st1 st2 x c / st2.length),nI (gP l st1 st2 x c % st2.length)])
   unfold gP
   rw [hd.1,hd.2]
   exact hr'
 ·exact .all fun us hl=>match us,hl with | [_,_],_=>rfl
 ·refine def_ok (N:=["pair","one","other"]) (fv:=[.ref m1,.ref m2]) ⟨rfl,rfl,rfl,by decide,rfl,by decide +kernel,by decide +kernel⟩ (B.cl (sc:=defScope s_both) [0,1] rfl (by decide +kernel) rfl rfl (fun j i x a b=>?_) (fun j i x a b=>?_)) (fun vs H Q E h=>?_) (fun vs H Q E h=>?_) (fun A outer s H vs Q E hr h=>?_)
  ·match j,a,b with
   | 0,a,b=>cases a; cases b; exact ⟨rfl,rfl⟩
   | 1,a,b=>cases a; cases b; exact ⟨rfl,rfl⟩
   | j+2,a,_=>simp at a
  ·match j,a,b with
   | 0,a,b=>cases a; cases b; rfl
   | 1,a,b=>cases a; cases b; rfl
   | j+2,a,_=>simp at a
  ·obtain ⟨a,x,rfl,_⟩:=h
   rfl
  ·obtain ⟨a,x,rfl,_,_,h1,h2,_⟩:=h
   exact ⟨h1,h2.2.2.2⟩
  ·obtain ⟨a,x,rfl,ha,hx,h1,⟨q1,q2,_,_⟩,k⟩:=h
   refine ⟨_,(pss_one (ps_ret (pe_and (pe_cmpR (op_inK (K:=K)) (pe_ix (ix_tupK (K:=K)) (pv 0) pe_int (fun _ _=>rfl)) (pe_ix (ix_tupK (K:=K)) (pv 1) pe_int (fun _ _=>rfl)) (by with_unfolding_all rfl)) (pe_one (pe_cmpR (op_inK (K:=K)) (pe_ix (ix_tupK (K:=K)) (pv 0) pe_int (fun _ _=>rfl)) (pe_ix (ix_tupK (K:=K)) (pv 2) pe_int (fun _ _=>rfl)) (by with_unfolding_all rfl)))))),?_⟩
   obtain ⟨eA,sA,rA,g1,g2,g3,g4,g5⟩:=q1.lay
   obtain ⟨eB,sB,rB,p1,p2,p3,p4,p5⟩:=q2.lay
   have ha':H a=some (.tup [nI (x / st2.length),nI (x % st2.length)]):=ha
   have i1:inV (nI (x / st2.length)) (es1.map nI)=decide (x / st2.length∈es1):=inV_nI _ es1
   have i2:inV (nI (x % st2.length)) (es2.map nI)=decide (x % st2.length∈es2):=inV_nI _ es2
   have kk:Q (.bl (decide (x / st2.length∈es1) && decide (x % st2.length∈es2))) H:=k _ (Same.refl _)
   refine ⟨_,rfl,a,_,_,_,rfl,rfl,SqT.of ha',atI_nat (j:=0) rfl,_,rfl,m1,_,_,_,rfl,rfl,SqT.of g1,atI_nat (j:=2) rfl,eA,_,rfl,.inr (SqT.of g2),rfl,flat_nI es1,_,rfl,?_⟩
   rw [i1]
   refine ite2 (fun c=>?_) (fun c=>?_)
   ·have c':decide (x / st2.length∈es1)=true:=c
    refine ⟨_,rfl,a,_,_,_,rfl,rfl,SqT.of ha',atI_nat (j:=1) rfl,_,rfl,m2,_,_,_,rfl,rfl,SqT.of p1,atI_nat (j:=2) rfl,eB,_,rfl,.inr (SqT.of p2),rfl,flat_nI es2,?_⟩
    rw [c',← i2] at kk
    exact kk
   ·have c':decide (x / st2.length∈es1)=false:=eq_false_of_ne_true c
    rw [c'] at kk
    exact kk
 ·exact .all fun us hl=>match us,hl with | [_],_=>rfl
 ·exact fun H1 H2 e ⟨a1,a2,a3,a4⟩=>⟨a1.same e,a2.same e,e _ _ a3,e _ _ a4⟩
 ·rw [kv,hbb.1,hbb.2]
  exact h3a
 ·have T4:=T3.same e4
  have TL4:=TL3.same e4
  have hlen:∀ x,x < st1.length * st2.length→(TL l (gP l st1 st2) x).length=l.length:=fun x _=>by unfold TL; rw [List.length_map]; exact len_list l
  have hpp:∀ x,x < st1.length * st2.length→∀ y∈TL l (gP l st1 st2) x,y < st1.length * st2.length:=fun x hx y hy=>by
   obtain ⟨c,hc,rfl⟩:=List.mem_map.mp hy
   exact hgP x c hx hc
  have hb0:b1 * st2.length+b2 < st1.length * st2.length:=pair_lt hn1 hn2
  have hR:=walk_rect (T:=TL l (gP l st1 st2)) (pl:=fun x=>x < st1.length * st2.length) hb0 hlen hpp hN
  have hpos:=ordK_pos (k:=id) (T:=TL l (gP l st1 st2)) (b:=b1 * st2.length+b2) N
  have hol:(ordK id (TL l (gP l st1 st2)) (b1 * st2.length+b2) N).length≤st1.length * st2.length:=ordK_len (P:=fun x=>x < st1.length * st2.length) hb0 hpp (fun x hx=>hx) N
  have ht:∀ cs,(∀ c∈cs,c < l.length)→_:=fun cs hc=>walk_tongue (e:=fun x=>decide (x / st2.length∈es1) && decide (x % st2.length∈es2)) (T:=TL l (gP l st1 st2)) (pl:=fun x=>x < st1.length * st2.length) hb0 hlen hpp hN cs 0 _ hc hpos.2
  have hrl:(rowsK id (TL l (gP l st1 st2)) (ordK id (TL l (gP l st1 st2)) (b1 * st2.length+b2) N)).length=(ordK id (TL l (gP l st1 st2)) (b1 * st2.length+b2) N).length:=by unfold rowsK; rw [List.length_map]
  have hel:(endsK (ordK id (TL l (gP l st1 st2)) (b1 * st2.length+b2) N) fun x=>decide (x / st2.length∈es1) && decide (x % st2.length∈es2)).length≤(ordK id (TL l (gP l st1 st2)) (b1 * st2.length+b2) N).length:=by
   unfold endsK
   exact Nat.le_trans (List.length_filter_le _ _) (by rw [List.length_range]; exact Nat.le_refl _)
  have hp1:=hpos.1
  refine ⟨m3,l,0,_,_,rfl,⟨hM,⟨M1.few.1,M1.few.2.1,by omega⟩,by omega,hR⟩,by omega,nd,TL4,fun m' stD esD H5 e5 TL5 D hs hL=>?_⟩
  have T5:=Tb.sameT T4 TL4 nbl e5
  have kp:Kp2 Pb Pl H H5:=fun b o n1 n2 h=>e5 _ _ n2 (e4 _ _ (s3 _ _ (e2 _ _ n1 (e1 _ _ n1 h))))
  refine k m' stD esD H5 kp T5 TL5 (D.cong fun cs hc=>?_) (by omega) hL
  rw [ht cs hc,gP_fold nd R1 R2 cs b1 b2 hn1 hn2 hc,Bool.and_eq_true,decide_eq_true_eq,decide_eq_true_eq]
  have hd:=pair_div (x:=wayN st1 b1 cs) (wayN_lt R2 cs b2 hn2 hc)
  rw [hd.1,hd.2]
theorem flow_store {H:Hp} {p sc s0:Addr} {o:HO} (F:FlowAt H p sc) (h1:p≠s0) (h2:sc≠s0):FlowAt (upd H s0 o) p sc:=by
 obtain ⟨xs,q1,q2⟩:=F.here
 obtain ⟨ns,q3⟩:=F.cells
 exact ⟨⟨xs,by rw [upd_ne h1]; exact q1,q2⟩,ns,by rw [upd_ne h2]; exact q3⟩
theorem e_nI (i:Nat):V.int (0+(i:Int))=nI i:=by
 rw [Int.zero_add]
 rfl
theorem map_snoc {α β:Type} (f:α→β) (l:List α) (x:α):l.map f ++ [f x]=(l ++ [x]).map f:=by
 rw [List.map_append]
 rfl
def EsOk (es:List Nat) (st:List (List Nat)):Prop:=es.length≤6∧(∀ x∈es,x < st.length)∧st.length≤6
inductive spMachineI (vs:List V) (H:Hp) (Q:VK):Prop
 | mk (p sc:Addr) (l:Str) (most:Int) (h1:vs=[.ref p,.str l,.int most]) (h2:0 < l.length) (h3:l.length≤3) (h4:0 < most) (h5:most≤6) (h6:FlowAt H p sc) (h7:∀ m b es st H',MachAt H' m l b es st→EsOk es st→Drew H H' p→FlowAt H' p sc→Q (.ref m) H'):spMachineI vs H Q
def spMachine:Sp:=fun vs H Q u3_=>spMachineI vs H Q
theorem ok_law_machine {f:Addr} {fd:FuncData} (F:Fun K "_law_machine" "_law_machine" s_law_machine f fd) (Z:Blt mg) (C_law_pick:Cal P w K mg base "_law_pick" 1 ["_law_flow_here","_law_many"] spPick):FnOk P w K mg base CX0 2 f fd ["_law_flow_here","_law_letters_here","_law_most"] spMachine:=by
 refine F.ok sc_law_machine (fun vs H Q E h=>?_) (fun cdv A outer s H vs Q E hr h=>?_)
 ·obtain ⟨p,sc,l,most,rfl,_⟩:=h
  rfl
 obtain ⟨p,sc,l,most,rfl,hl0,hl1,hm0,hm1,FA,k⟩:=h
 have hln:=len_list l
 refine ⟨_,(pss_cons (ps_set (i:=3) sc_law_machine.nd (by rfl) (Or.inr (by rfl)) (pe_op op_add pe_int (pe_c C_law_pick (hr.mono (by decide)) (pa_cons (pv 0) (pa_cons (pv 2) pa_nil))))) 
   (pss_cons (ps_set (i:=4) sc_law_machine.nd (by rfl) (Or.inl (by rfl)) (pe_callTy (call_tupK (K:=K)) (by rfl) Z.tuple bt_tuple (pa_cons (pe_comp (sc:=defScope s_law_machine) (Nm:=["_law_flow_here","_law_letters_here","_law_most","_law_rooms","_law_ends","_law_steps","_law_room"]) (own:=["_law_room"]) (fr:=[0]) ⟨rfl,by decide +kernel,by decide +kernel,by decide +kernel,by decide +kernel⟩ (by rfl) (gfr_name (by decide)) (pi_range1 (by rfl) Z.range (pa_cons (pv 3) pa_nil)) (fun d=>(pg_name (i:=0) nd_law_machine_0 (by rfl) (Or.inl (by rfl)))) (fun d=>(pts_one (pt_cmpR op_eq (pe_c C_law_pick (hr.mono (by decide)) (pa_cons (pv 1) (pa_cons pe_int pa_nil))) pe_int (nomark _)))) (fun d=>(pv 0))) pa_nil))) 
   (pss_cons (ps_set (i:=5) sc_law_machine.nd (by rfl) (Or.inl (by rfl)) (pe_lst pa_nil)) 
   (pss_cons (ps_for PassesOwn.never (by rfl) (pi_range1 (by rfl) Z.range (pa_cons (pv 3) pa_nil)) (pg_name (i:=6) sc_law_machine.nd (by rfl) (Or.inl (by rfl))) 
    (pss_one (ps_expr (pe_bmK (K:=K) PySem.F.plainAttrs_list PySem.F.slot_list_append PySem.F.type_list_append mt_append (pv 5) (pa_cons (pe_callTy (call_tupK (K:=K)) (by rfl) Z.tuple bt_tuple (pa_cons (pe_comp (sc:=defScope s_law_machine) (Nm:=["_law_flow_here","_law_letters_here","_law_most","_law_rooms","_law_ends","_law_steps","_law_room"]) (own:=["_law_letter"]) (fr:=[0,3]) ⟨rfl,by decide +kernel,by decide +kernel,by decide +kernel,by decide +kernel⟩ (by rfl) (gfr_name (by decide)) (pi_str (pv 1)) (fun d=>(pg_name (i:=0) nd_law_machine_1 (by rfl) (Or.inl (by rfl)))) (fun d=>pts_nil) (fun d=>(pe_c C_law_pick (hr.mono (by decide)) (pa_cons (pv 1) (pa_cons (pv 2) pa_nil))))) pa_nil)) pa_nil))))) 
   (pss_one (ps_ret (pe_tup (pa_cons (pv 1) (pa_cons (pe_c C_law_pick (hr.mono (by decide)) (pa_cons (pv 0) (pa_cons (pv 3) pa_nil))) (pa_cons (pv 4) (pa_cons (pe_callTy (call_tupK (K:=K)) (by rfl) Z.tuple bt_tuple (pa_cons (pv 5) pa_nil)) pa_nil))))))))))),?_⟩
 refine (let zz0:TS:=_; let zz1:TS:=tSeq _ zz0; let zz2:TS:=tSeq _ zz1; let zz3:TS:=tSeq _ zz2; (?_:tSeq _ zz3 _ _ _))
 refine ⟨_,rfl,_,rfl,p,sc,most,rfl,hm0,by omega,FA,fun r xs0 hr0 hr1 hx0=>⟨_,_,rfl,rfl,?_⟩⟩
 have FA0:=FA.go hx0
 have d0:Drew H (upd H p (.lst xs0)) p:=Drew.upd _
 refine ⟨_,rfl,_,rfl,by omega,by omega,?_⟩
 refine comp_range (lo:=0) (k:=(1+r).toNat) (fun i acc H2=>∃ es:List Nat,acc=es.map nI∧es.length≤i∧(∀ x∈es,x < i)∧FlowAt H2 p sc∧Drew H H2 p) (Nat.lt_of_le_of_lt (show (1+r).toNat≤6 by omega) (by decide)) ⟨[],rfl,Nat.le_refl _,fun x z=>absurd z (by simp),FA0,d0⟩
  (fun i acc H2 ⟨es,e,hl',_⟩=>by rw [e,List.length_map]; exact hl') (fun i acc H2 hi hp=>?_) (fun acc H2 hp q hq=>?_)
 ·obtain ⟨es,rfl,hel,hem,FA2,dr⟩:=hp
  refine ⟨_,rfl,p,sc,2,rfl,by decide,by decide,FA2,fun r2 xs1 _ _ hx1=>⟨rfl,_,rfl,?_⟩⟩
  refine ite2 (fun _=>⟨_,rfl,es ++ [i],?_,?_,fun x hx=>?_,FA2.go hx1,drew_go dr _⟩) (fun _=>⟨es,rfl,by omega,fun x hx=>Nat.lt_succ_of_lt (hem x hx),FA2.go hx1,drew_go dr _⟩)
  ·rw [e_nI,map_snoc]
  ·rw [List.length_append,List.length_singleton]
   omega
  ·rcases List.mem_append.mp hx with z | z
   ·exact Nat.lt_succ_of_lt (hem x z)
   ·rw [List.mem_singleton.mp z]; exact Nat.lt_succ_self _
 obtain ⟨es,rfl,hel,hem,FA2,dr2⟩:=hp
 refine ⟨q,_,rfl,.inl ⟨SqL.of upd_same,fun e he=>?_⟩⟩
 have s1:=same_new hq (.lst (es.map nI))
 have s2:=same_new he (.tup (es.map nI))
 have FA3:=(FA2.same s1).same s2
 have d3:=(dr2.trans (Drew.same s1)).trans (Drew.same (p:=p) s2)
 generalize hG:upd (upd H2 q (.lst (es.map nI))) e (.tup (es.map nI))=H3 at FA3 d3 ⊢
 have he3:H3 e=some (.tup (es.map nI)):=by rw [← hG]; exact upd_same
 refine ⟨(by show 0≤sizeLine; decide),fun s0 hs0=>?_⟩
 have s4:=same_new hs0 (.lst [])
 have nps:p≠s0:=by
  obtain ⟨ys,h1,_⟩:=FA3.here
  exact ne_of_none h1 hs0
 have nscs:sc≠s0:=by
  obtain ⟨ns,h1⟩:=FA3.cells
  exact ne_of_none h1 hs0
 have nes:e≠s0:=ne_of_none he3 hs0
 have nep:e≠p:=by
  obtain ⟨ys,h1,_⟩:=FA3.here
  exact ne_of he3 h1 (by intro z; cases z)
 have fresh:∀ b o,H b=some o→b≠p→b≠s0:=fun b o hb hne=>ne_of_none (d3 b o hb hne) hs0
 refine ⟨_,rfl,_,rfl,by omega,by omega,?_⟩
 refine for_range (lo:=0) (n:=(1+r).toNat) (fun i σ H4=>∃ (v:Option V) (ras:List Addr) (st:List (List Nat)),σ=[some (.ref p),some (.str l),some (.int most),some (.int (1+r)),some (.ref e),some (.ref s0),v]∧H4 s0=some (.lst (ras.map V.ref))∧ras.length=i∧st.length=i∧
   (∀ (j:Nat) a r',ras[j]? = some a→st[j]? = some r'→H4 a=some (.tup (r'.map nI)))∧(∀ r'∈st,r'.length=l.length∧∀ x∈r',x < (1+r).toNat)∧H4 e=some (.tup (es.map nI))∧FlowAt H4 p sc∧Drew H H4 p)
  ⟨none,[],[],rfl,upd_same,rfl,rfl,fun j a r' z=>by simp at z,fun r' z=>absurd z (by simp),s4 _ _ he3,FA3.same s4,d3.trans (Drew.same s4)⟩ ?_ ?_
 ·rintro i σ H4 hi ⟨v,ras,st,rfl,hs,hra,hst,hrow,hval,he4,FA4,d4⟩
  refine ⟨_,rfl,.inl ⟨rfl,_,SqL.of hs⟩,_,rfl,l,rfl,?_⟩
  refine comp_str (cs:=l.cps.toList) (fun j acc H5=>∃ ys:List Nat,acc=ys.map nI∧ys.length=j∧(∀ x∈ys,x < (1+r).toNat)∧FlowAt H5 p sc∧Drew H4 H5 p) (Nat.lt_of_le_of_lt (show l.cps.toList.length≤3 by omega) (by decide)) ⟨[],rfl,rfl,fun x z=>absurd z (by simp),FA4,Drew.refl _ _⟩
   (fun j acc H5 ⟨ys,e',hl',_⟩=>by rw [e',List.length_map,hl']; exact Nat.le_refl _) (fun j acc H5 c hc hp=>?_) (fun acc H5 hp q5 hq5=>?_)
  ·obtain ⟨ys,rfl,hyl,hyv,FA5,dr5⟩:=hp
   refine cyes ⟨_,rfl,_,rfl,p,sc,_,rfl,by omega,by omega,FA5,fun r5 xs5 h50 h51 hx5=>⟨ys ++ [r5.toNat],?_,by rw [List.length_append,hyl]; rfl,fun x hx=>?_,FA5.go hx5,drew_go dr5 _⟩⟩
   ·rw [← map_snoc]
    have:V.int r5=nI r5.toNat:=by
     show V.int r5=V.int ((r5.toNat:Nat):Int)
     rw [show ((r5.toNat:Nat):Int)=r5 by omega]
    rw [this]
   ·rcases List.mem_append.mp hx with z | z
    ·exact hyv x z
    ·rw [List.mem_singleton.mp z]; omega
  ·obtain ⟨ys,rfl,hyl,hyv,FA5,dr5⟩:=hp
   refine ⟨q5,_,rfl,.inl ⟨SqL.of upd_same,fun a ha=>?_⟩⟩
   have t1:=same_new hq5 (.lst (ys.map nI))
   have t2:=same_new ha (.tup (ys.map nI))
   have hs5:H5 s0=some (.lst (ras.map V.ref)):=dr5 _ _ hs (Ne.symm nps)
   have nas:a≠s0:=fun z=>by rw [z,t1 _ _ hs5] at ha; cases ha
   refine ⟨s0,_,_,rfl,rfl,t2 _ _ (t1 _ _ hs5),?_,?_⟩
   ·rw [List.length_map]
    exact Nat.lt_of_le_of_lt (show ras.length≤6 by omega) (by decide)
   ·have keep:∀ b ys',H4 b=some (.tup ys')→upd (upd (upd H5 q5 (.lst (ys.map nI))) a (.tup (ys.map nI))) s0 (.lst (ras.map V.ref ++ [.ref a])) b=some (.tup ys'):=fun b ys' hb=>by
     have nbp:b≠p:=by
      obtain ⟨zs,h1,_⟩:=FA4.here
      exact ne_of hb h1 (by intro z; cases z)
     have nbs:b≠s0:=ne_of hb hs (by intro z; cases z)
     rw [upd_ne nbs]
     exact t2 _ _ (t1 _ _ (dr5 _ _ hb nbp))
    refine ⟨_,ras ++ [a],st ++ [ys],rfl,?_,?_,?_,?_,?_,?_,?_,?_⟩
    ·rw [upd_same,← map_snoc]
    ·rw [List.length_append,hra]; rfl
    ·rw [List.length_append,hst]; rfl
    ·intro j a' r' z1 z2
     rcases Nat.lt_or_ge j i with hj | hj
     ·rw [List.getElem?_append_left (by omega)] at z1 z2
      exact keep _ _ (hrow j a' r' z1 z2)
     ·rw [List.getElem?_append_right (by omega)] at z1 z2
      have hj0:j=i:=by
       have:=(List.getElem?_eq_some_iff.mp z1).1
       rw [List.length_singleton] at this
       omega
      subst hj0
      rw [show j - ras.length=0 by omega] at z1
      rw [show j - st.length=0 by omega] at z2
      cases z1
      cases z2
      rw [upd_ne nas]
      exact upd_same
    ·intro r' hr'
     rcases List.mem_append.mp hr' with z | z
     ·exact hval r' z
     ·rw [List.mem_singleton.mp z]
      exact ⟨by omega,hyv⟩
    ·exact keep _ _ he4
    ·exact flow_store ((FA5.same t1).same t2) nps nscs
    ·intro b o hb hne
     rw [upd_ne (fresh b o hb hne)]
     exact t2 _ _ (t1 _ _ (dr5 _ _ (d4 b o hb hne) hne))
 ·rintro σ H4 ⟨v,ras,st,rfl,hs,hra,hst,hrow,hval,he4,FA4,d4⟩
  refine ⟨_,rfl,_,rfl,_,rfl,p,sc,_,rfl,by omega,by omega,FA4,fun b xs5 hb0 hb1 hx5=>?_⟩
  have FA5:=FA4.go hx5
  have d5:Drew H4 (upd H4 p (.lst xs5)) p:=Drew.upd _
  refine ⟨_,rfl,_,rfl,s0,_,rfl,.inl ⟨SqL.of (d5 _ _ hs (Ne.symm nps)),fun s5 hs5=>⟨(by show 4≤sizeLine; decide),fun m hm=>?_⟩⟩⟩
  have t1:=same_new hs5 (.tup (ras.map V.ref))
  have t2:=same_new hm (.tup [.str l,.int b,.ref e,.ref s5])
  refine k m b.toNat es st _ ⟨⟨e,s5,ras,?_,?_,?_,by omega,fun j a' r' z1 z2=>?_⟩,⟨hl0,hl1,by omega⟩,by omega,fun r' hr'=>⟨(hval r' hr').1,fun x hx=>by have:=(hval r' hr').2 x hx; omega⟩⟩ ⟨by omega,fun x hx=>by have:=hem x hx; omega,by omega⟩ ?_ ((FA5.same t1).same t2)
  ·rw [upd_same]
   have:V.int b=nI b.toNat:=by
    show V.int b=V.int ((b.toNat:Nat):Int)
    rw [show ((b.toNat:Nat):Int)=b by omega]
   rw [this]
  ·exact t2 _ _ (t1 _ _ (d5 _ _ he4 nep))
  ·exact t2 _ _ upd_same
  ·have hb':=hrow j a' r' z1 z2
   have nbp:a'≠p:=by
    obtain ⟨zs,h1,_⟩:=FA4.here
    exact ne_of hb' h1 (by intro z; cases z)
   exact t2 _ _ (t1 _ _ (d5 _ _ hb' nbp))
  ·exact (d4.trans d5).trans ((Drew.same t1).trans (Drew.same t2))
def cpl (n:Nat) (es:List Nat):List Nat:=(List.range n).filter fun r=>!decide (r∈es)
theorem cpl_mem {n:Nat} {es:List Nat} {r:Nat}:r∈cpl n es↔r < n∧r∉es:=by
 unfold cpl
 rw [List.mem_filter,List.mem_range]
 simp
theorem cpl_len (n:Nat) (es:List Nat):(cpl n es).length≤n:=by
 unfold cpl
 exact Nat.le_trans (List.length_filter_le _ _) (by rw [List.length_range]; exact Nat.le_refl _)
theorem cpl_snoc {i:Nat} {es:List Nat}:cpl (i+1) es=cpl i es ++ if decide (i∈es)=true then [] else [i]:=by
 unfold cpl
 rw [List.range_succ,List.filter_append,List.filter_cons]
 by_cases c:decide (i∈es)=true
 ·rw [if_pos c,c]; rfl
 ·rw [if_neg c,eq_false_of_ne_true c]; rfl
inductive spContrI (Pt:Addr) (vs:List V) (H:Hp) (Q:VK):Prop
 | mk (m:Addr) (l:Str) (b:Nat) (es:List Nat) (st:List (List Nat)) (h1:vs=[.ref m]) (h2:MachAt H m l b es st) (h3:es.length≤500) (h4:Tb Pt tabLeast H) (h5:∀ m' k N H',SameT Pt H H'→Tb Pt tabLeast H'→dn (lkN st (cpl st.length es) (k+1))≤dn (lkN st (cpl st.length es) k)→(ordK id (TL l (gL l st (lkN st (cpl st.length es) (k+1)))) ((lkN st (cpl st.length es) (k+1)).getD b 0) N).length≤N→MLay H' m' l 0 (endsK (ordK id (TL l (gL l st (lkN st (cpl st.length es) (k+1)))) ((lkN st (cpl st.length es) (k+1)).getD b 0) N) fun x=>decide (x∈cpl st.length es)) (rowsK id (TL l (gL l st (lkN st (cpl st.length es) (k+1)))) (ordK id (TL l (gL l st (lkN st (cpl st.length es) (k+1)))) ((lkN st (cpl st.length es) (k+1)).getD b 0) N))→Q (.ref m') H'):spContrI Pt vs H Q
def spContr (Pt:Addr):Sp:=fun vs H Q u3_=>spContrI Pt vs H Q
theorem ok_contrary {f:Addr} {fd:FuncData} {Pt:Addr} (F:Fun K "contrary" "contrary" s_contrary f fd) (Z:Blt mg) (C_least:Cal P w K mg base "least" 5 ["machine"] (spLeast Pt)):FnOk P w K mg base CX0 6 f fd ["machine"] (spContr Pt):=by
 refine F.ok sc_contrary (fun vs H Q E h=>?_) (fun cdv A outer s H vs Q E hr h=>?_)
 ·obtain ⟨m,l,b,es,st,rfl,_⟩:=h
  rfl
 obtain ⟨m,l,b,es,st,rfl,M,hes,hT,k⟩:=h
 refine ⟨_,(pss_cons (ps_set (i:=1) sc_contrary.nd (by rfl) (Or.inl (by rfl)) (pe_callTy (call_tupK (K:=K)) (by rfl) Z.tuple bt_tuple (pa_cons (pe_comp (sc:=defScope s_contrary) (Nm:=["machine","ends"]) (own:=["room"]) (fr:=[0]) ⟨rfl,by decide +kernel,by decide +kernel,by decide +kernel,by decide +kernel⟩ (by rfl) (gfr_name (by decide)) (pi_range1 (by rfl) Z.range (pa_cons (pe_callB (call_lenK (K:=K)) (by rfl) Z.len bt_len (pa_cons (pe_ix (ix_tupK (K:=K)) (pv 0) pe_int (fun _ _=>rfl)) pa_nil)) pa_nil)) (fun d=>(pg_name (i:=0) nd_contrary_0 (by rfl) (Or.inl (by rfl)))) (fun d=>(pts_one (pt_cmpR (op_notInK (K:=K)) (pv 0) (pe_ix (ix_tupK (K:=K)) (pv 1) pe_int (fun _ _=>rfl)) (by with_unfolding_all rfl)))) (fun d=>(pv 0))) pa_nil))) 
   (pss_one (ps_ret (pe_c C_least (hr.mono (by decide)) (pa_cons (pe_tup (pa_cons (pe_ix (ix_tupK (K:=K)) (pv 0) pe_int (fun _ _=>rfl)) (pa_cons (pe_ix (ix_tupK (K:=K)) (pv 0) pe_int (fun _ _=>rfl)) (pa_cons (pv 1) (pa_cons (pe_ix (ix_tupK (K:=K)) (pv 0) pe_int (fun _ _=>rfl)) pa_nil))))) pa_nil))))),?_⟩
 refine (let zz0:TS:=_; (?_:tSeq _ zz0 _ _ _))
 obtain ⟨eA,sA,ras,h1,h2,h3,h4,h5⟩:=M.lay
 have hst:=M.few.2.2
 have hrl:(ras.map V.ref).length=st.length:=by rw [List.length_map,h4]
 refine ⟨_,rfl,m,_,_,_,rfl,rfl,SqT.of h1,atI_nat (j:=3) rfl,sA,_,rfl,.inr (SqT.of h3),_,rfl,by omega,by omega,?_⟩
 refine comp_range (lo:=0) (k:=((((ras.map V.ref).length:Nat):Int)).toNat) (fun i acc H2=>acc=(cpl i es).map nI∧Same H H2) (Nat.lt_of_le_of_lt (show _≤216 by omega) (by decide)) ⟨rfl,Same.refl _⟩
  (fun i acc H2 p=>by rw [p.1,List.length_map]; exact cpl_len i es) (fun i acc H2 hi p=>?_) (fun acc H2 p y hy=>?_)
 ·obtain ⟨rfl,e2⟩:=p
  have hin:inV (V.int (0+(i:Int))) (es.map nI)=decide (i∈es):=by
   rw [show (0:Int)+(i:Int)=((i:Nat):Int) by omega]
   exact inV_nI i es
  refine ⟨_,rfl,_,rfl,m,_,_,_,rfl,rfl,SqT.of (e2 _ _ h1),atI_nat (j:=2) rfl,eA,_,rfl,.inr (SqT.of (e2 _ _ h2)),rfl,flat_nI es,_,rfl,?_⟩
  rw [hin,cpl_snoc,List.map_append]
  refine ite2 (fun c=>?_) (fun c=>?_)
  ·have c':¬ decide (i∈es)=true:=fun z=>by
    have c2:(!decide (i∈es))=true:=c
    rw [z] at c2
    cases c2
   rw [if_neg c']
   exact ⟨_,rfl,by rw [e_nI]; rfl,e2⟩
  ·have c':decide (i∈es)=true:=Classical.byContradiction fun z=>c (by
    show (!decide (i∈es))=true
    rw [eq_false_of_ne_true z]
    rfl)
   rw [if_pos c']
   exact ⟨by rw [List.map_nil,List.append_nil],e2⟩
 obtain ⟨rfl,e2⟩:=p
 have hk0:((((ras.map V.ref).length:Nat):Int)).toNat=st.length:=by omega
 rw [hk0]
 have s3:=same_new hy (.lst ((cpl st.length es).map nI))
 refine ⟨y,_,rfl,.inl ⟨SqL.of upd_same,fun ep hep=>?_⟩⟩
 have s4:=same_new hep (.tup ((cpl st.length es).map nI))
 have h4e:upd (upd H2 y (.lst ((cpl st.length es).map nI))) ep (.tup ((cpl st.length es).map nI)) ep=some (.tup ((cpl st.length es).map nI)):=upd_same
 have e4:=(e2.trans s3).trans s4
 generalize upd (upd H2 y (.lst ((cpl st.length es).map nI))) ep (.tup ((cpl st.length es).map nI))=H4 at h4e e4
 refine ⟨_,rfl,m,_,_,_,rfl,rfl,SqT.of (e4 _ _ h1),atI_nat (j:=0) rfl,_,rfl,m,_,_,_,rfl,rfl,SqT.of (e4 _ _ h1),atI_nat (j:=1) rfl,_,rfl,_,rfl,m,_,_,_,rfl,rfl,SqT.of (e4 _ _ h1),atI_nat (j:=3) rfl,(by show 4≤sizeLine; decide),fun m2 hm2=>?_⟩
 have s5:=same_new hm2 (.tup [V.str l,nI b,.ref ep,.ref sA])
 have e5:=e4.trans s5
 refine ⟨m2,l,b,cpl st.length es,st,rfl,⟨⟨ep,sA,ras,upd_same,s5 _ _ h4e,e5 _ _ h3,h4,fun i a r q1 q2=>e5 _ _ (h5 i a r q1 q2)⟩,M.few,M.beg,M.rows⟩,by have:=cpl_len st.length es; omega,hT.same e5,fun m' k' N H' e6 hT' a1 a2 a3=>k m' k' N H' (e5.t.trans e6) hT' a1 a2 a3⟩
def LeastOut (Pt:Addr) (l:Str) (b:Nat) (es:List Nat) (st:List (List Nat)) (H:Hp) (Q:VK):Prop:=
 ∀ m' k N H',SameT Pt H H'→Tb Pt tabLeast H'→dn (lkN st es (k+1))≤dn (lkN st es k)→(ordK id (TL l (gL l st (lkN st es (k+1)))) ((lkN st es (k+1)).getD b 0) N).length≤N→
  MLay H' m' l 0 (endsK (ordK id (TL l (gL l st (lkN st es (k+1)))) ((lkN st es (k+1)).getD b 0) N) fun x=>decide (x∈es)) (rowsK id (TL l (gL l st (lkN st es (k+1)))) (ordK id (TL l (gL l st (lkN st es (k+1)))) ((lkN st es (k+1)).getD b 0) N))→Q (.ref m') H'
inductive spBehindI (Pt:Addr) (vs:List V) (H:Hp) (Q:VK):Prop
 | mk (m:Addr) (l:Str) (b:Nat) (es:List Nat) (st:List (List Nat)) (t:Str) (h1:vs=[.ref m,.str t]) (h2:MachAt H m l b es st) (h3:es.length≤500) (h4:(∀ c∈t.cps.toList,c∈l.cps.toList)) (h5:Tb Pt tabLeast H) (h6:LeastOut Pt l (way l st b t.cps.toList) es st H Q):spBehindI Pt vs H Q
def spBehind (Pt:Addr):Sp:=fun vs H Q u3_=>spBehindI Pt vs H Q
theorem ok_behind {f:Addr} {fd:FuncData} {Pt:Addr} (F:Fun K "behind" "behind" s_behind f fd) (Z:Blt mg) (C_room_behind:Cal P w K mg base "room_behind" 1 ["machine","room","text"] spRoom) (C_least:Cal P w K mg base "least" 5 ["machine"] (spLeast Pt)):FnOk P w K mg base CX0 6 f fd ["machine","word"] (spBehind Pt):=by
 refine F.ok sc_behind (fun vs H Q E h=>?_) (fun cdv A outer s H vs Q E hr h=>?_)
 ·obtain ⟨m,l,b,es,st,t,rfl,_⟩:=h
  rfl
 obtain ⟨m,l,b,es,st,t,rfl,M,hes,ht,hT,k⟩:=h
 refine ⟨_,(pss_cons (ps_set (i:=2) sc_behind.nd (by rfl) (Or.inl (by rfl)) (pe_c C_room_behind (hr.mono (by decide)) (pa_cons (pv 0) (pa_cons (pe_ix (ix_tupK (K:=K)) (pv 0) pe_int (fun _ _=>rfl)) (pa_cons (pv 1) pa_nil))))) 
   (pss_one (ps_ret (pe_c C_least (hr.mono (by decide)) (pa_cons (pe_tup (pa_cons (pe_ix (ix_tupK (K:=K)) (pv 0) pe_int (fun _ _=>rfl)) (pa_cons (pv 2) (pa_cons (pe_ix (ix_tupK (K:=K)) (pv 0) pe_int (fun _ _=>rfl)) (pa_cons (pe_ix (ix_tupK (K:=K)) (pv 0) pe_int (fun _ _=>rfl)) pa_nil))))) pa_nil))))),?_⟩
 refine (let zz0:TS:=_; (?_:tSeq _ zz0 _ _ _))
 obtain ⟨eA,sA,ras,h1,h2,h3,h4,h5⟩:=M.lay
 refine ⟨_,rfl,_,rfl,m,_,_,_,rfl,rfl,SqT.of h1,atI_nat (j:=1) rfl,_,rfl,m,l,b,es,st,b,t,rfl,M,M.beg,ht,?_⟩
 refine ⟨_,rfl,m,_,_,_,rfl,rfl,SqT.of h1,atI_nat (j:=0) rfl,_,rfl,_,rfl,m,_,_,_,rfl,rfl,SqT.of h1,atI_nat (j:=2) rfl,_,rfl,m,_,_,_,rfl,rfl,SqT.of h1,atI_nat (j:=3) rfl,(by show 4≤sizeLine; decide),fun m2 hm2=>?_⟩
 have s5:=same_new hm2 (.tup [V.str l,nI (way l st b t.cps.toList),.ref eA,.ref sA])
 refine ⟨m2,l,way l st b t.cps.toList,es,st,rfl,⟨⟨eA,sA,ras,upd_same,s5 _ _ h2,s5 _ _ h3,h4,fun i a r q1 q2=>s5 _ _ (h5 i a r q1 q2)⟩,M.few,way_lt M _ _ M.beg ht,M.rows⟩,hes,hT.same s5,fun m' k' N H' e6 hT' a1 a2 a3=>k m' k' N H' (s5.t.trans e6) hT' a1 a2 a3⟩
def ahE (l:Str) (st:List (List Nat)) (es:List Nat) (t:List Nat) (n:Nat):List Nat:=(List.range n).filter fun r=>decide (way l st r t∈es)
theorem ahE_len (l:Str) (st:List (List Nat)) (es:List Nat) (t:List Nat) (n:Nat):(ahE l st es t n).length≤n:=by
 unfold ahE
 exact Nat.le_trans (List.length_filter_le _ _) (by rw [List.length_range]; exact Nat.le_refl _)
theorem ahE_mem {l:Str} {st:List (List Nat)} {es:List Nat} {t:List Nat} {n r:Nat}:r∈ahE l st es t n↔r < n∧way l st r t∈es:=by
 unfold ahE
 rw [List.mem_filter,List.mem_range,decide_eq_true_eq]
theorem ahE_snoc {l:Str} {st:List (List Nat)} {es:List Nat} {t:List Nat} {i:Nat}:ahE l st es t (i+1)=ahE l st es t i ++ if decide (way l st i t∈es)=true then [i] else []:=by
 unfold ahE
 rw [List.range_succ,List.filter_append,List.filter_cons]
 rfl
inductive spAheadI (Pt:Addr) (vs:List V) (H:Hp) (Q:VK):Prop
 | mk (m:Addr) (l:Str) (b:Nat) (es:List Nat) (st:List (List Nat)) (t:Str) (h1:vs=[.ref m,.str t]) (h2:MachAt H m l b es st) (h3:es.length≤500) (h4:(∀ c∈t.cps.toList,c∈l.cps.toList)) (h5:Tb Pt tabLeast H) (h6:LeastOut Pt l b (ahE l st es t.cps.toList st.length) st H Q):spAheadI Pt vs H Q
def spAhead (Pt:Addr):Sp:=fun vs H Q u3_=>spAheadI Pt vs H Q
theorem ok_ahead {f:Addr} {fd:FuncData} {Pt:Addr} (F:Fun K "ahead" "ahead" s_ahead f fd) (Z:Blt mg) (C_room_behind:Cal P w K mg base "room_behind" 1 ["machine","room","text"] spRoom) (C_least:Cal P w K mg base "least" 5 ["machine"] (spLeast Pt)):FnOk P w K mg base CX0 6 f fd ["machine","word"] (spAhead Pt):=by
 refine F.ok sc_ahead (fun vs H Q E h=>?_) (fun cdv A outer s H vs Q E hr h=>?_)
 ·obtain ⟨m,l,b,es,st,t,rfl,_⟩:=h
  rfl
 obtain ⟨m,l,b,es,st,t,rfl,M,hes,ht,hT,k⟩:=h
 refine ⟨_,(pss_cons (ps_set (i:=2) sc_ahead.nd (by rfl) (Or.inl (by rfl)) (pe_callTy (call_tupK (K:=K)) (by rfl) Z.tuple bt_tuple (pa_cons (pe_comp (sc:=defScope s_ahead) (Nm:=["machine","word","ends"]) (own:=["room"]) (fr:=[0,1]) ⟨rfl,by decide +kernel,by decide +kernel,by decide +kernel,by decide +kernel⟩ (by rfl) (gfr_name (by decide)) (pi_range1 (by rfl) Z.range (pa_cons (pe_callB (call_lenK (K:=K)) (by rfl) Z.len bt_len (pa_cons (pe_ix (ix_tupK (K:=K)) (pv 0) pe_int (fun _ _=>rfl)) pa_nil)) pa_nil)) (fun d=>(pg_name (i:=0) nd_ahead_0 (by rfl) (Or.inl (by rfl)))) (fun d=>(pts_one (pt_cmpR (op_inK (K:=K)) (pe_c C_room_behind (hr.mono (by decide)) (pa_cons (pv 1) (pa_cons (pv 0) (pa_cons (pv 2) pa_nil)))) (pe_ix (ix_tupK (K:=K)) (pv 1) pe_int (fun _ _=>rfl)) (by with_unfolding_all rfl)))) (fun d=>(pv 0))) pa_nil))) 
   (pss_one (ps_ret (pe_c C_least (hr.mono (by decide)) (pa_cons (pe_tup (pa_cons (pe_ix (ix_tupK (K:=K)) (pv 0) pe_int (fun _ _=>rfl)) (pa_cons (pe_ix (ix_tupK (K:=K)) (pv 0) pe_int (fun _ _=>rfl)) (pa_cons (pv 2) (pa_cons (pe_ix (ix_tupK (K:=K)) (pv 0) pe_int (fun _ _=>rfl)) pa_nil))))) pa_nil))))),?_⟩
 refine (let zz0:TS:=_; (?_:tSeq _ zz0 _ _ _))
 obtain ⟨eA,sA,ras,h1,h2,h3,h4,h5⟩:=M.lay
 have hst:=M.few.2.2
 have hrl:(ras.map V.ref).length=st.length:=by rw [List.length_map,h4]
 refine ⟨_,rfl,m,_,_,_,rfl,rfl,SqT.of h1,atI_nat (j:=3) rfl,sA,_,rfl,.inr (SqT.of h3),_,rfl,by omega,by omega,?_⟩
 refine comp_range (lo:=0) (k:=((((ras.map V.ref).length:Nat):Int)).toNat) (fun i acc H2=>acc=(ahE l st es t.cps.toList i).map nI∧Same H H2) (Nat.lt_of_le_of_lt (show _≤216 by omega) (by decide)) ⟨rfl,Same.refl _⟩
  (fun i acc H2 p=>by rw [p.1,List.length_map]; exact ahE_len _ _ _ _ i) (fun i acc H2 hi p=>?_) (fun acc H2 p y hy=>?_)
 ·obtain ⟨rfl,e2⟩:=p
  have hi':i < st.length:=by omega
  have hin:inV (nI (way l st i t.cps.toList)) (es.map nI)=decide (way l st i t.cps.toList∈es):=inV_nI _ es
  refine ⟨_,rfl,_,rfl,_,rfl,m,l,b,es,st,i,t,by rw [e_nI]; rfl,M.same e2,hi',ht,_,rfl,m,_,_,_,rfl,rfl,SqT.of (e2 _ _ h1),atI_nat (j:=2) rfl,eA,_,rfl,.inr (SqT.of (e2 _ _ h2)),rfl,flat_nI es,_,rfl,?_⟩
  rw [hin,ahE_snoc,List.map_append]
  refine ite2 (fun c=>?_) (fun c=>?_)
  ·have c':decide (way l st i t.cps.toList∈es)=true:=c
   rw [if_pos c']
   exact ⟨_,rfl,by rw [e_nI]; rfl,e2⟩
  ·have c':¬ decide (way l st i t.cps.toList∈es)=true:=c
   rw [if_neg c']
   exact ⟨by rw [List.map_nil,List.append_nil],e2⟩
 obtain ⟨rfl,e2⟩:=p
 have hk0:((((ras.map V.ref).length:Nat):Int)).toNat=st.length:=by omega
 rw [hk0]
 have hle:=ahE_len l st es t.cps.toList st.length
 generalize ahE l st es t.cps.toList st.length=e' at k hle
 have s3:=same_new hy (.lst (e'.map nI))
 refine ⟨y,_,rfl,.inl ⟨SqL.of upd_same,fun ep hep=>?_⟩⟩
 have s4:=same_new hep (.tup (e'.map nI))
 have h4e:upd (upd H2 y (.lst (e'.map nI))) ep (.tup (e'.map nI)) ep=some (.tup (e'.map nI)):=upd_same
 have e4:=(e2.trans s3).trans s4
 generalize upd (upd H2 y (.lst (e'.map nI))) ep (.tup (e'.map nI))=H4 at h4e e4
 refine ⟨_,rfl,m,_,_,_,rfl,rfl,SqT.of (e4 _ _ h1),atI_nat (j:=0) rfl,_,rfl,m,_,_,_,rfl,rfl,SqT.of (e4 _ _ h1),atI_nat (j:=1) rfl,_,rfl,_,rfl,m,_,_,_,rfl,rfl,SqT.of (e4 _ _ h1),atI_nat (j:=3) rfl,(by show 4≤sizeLine; decide),fun m2 hm2=>?_⟩
 have s5:=same_new hm2 (.tup [V.str l,nI b,.ref ep,.ref sA])
 have e5:=e4.trans s5
 refine ⟨m2,l,b,e',st,rfl,⟨⟨ep,sA,ras,upd_same,s5 _ _ h4e,e5 _ _ h3,h4,fun i a r q1 q2=>e5 _ _ (h5 i a r q1 q2)⟩,M.few,M.beg,M.rows⟩,by omega,hT.same e5,fun m' k' N H' e6 hT' a1 a2 a3=>k m' k' N H' (e5.t.trans e6) hT' a1 a2 a3⟩
def tx (l t:Str):List Nat:=t.cps.toList.map (fx l)
theorem leastOut_imp {Pt:Addr} {l:Str} {b:Nat} {es:List Nat} {st:List (List Nat)} {H:Hp} {Q:VK} {P:List Nat→Prop} (nd:l.cps.toList.Nodup) (R:Rect st l.length) (hb:b < st.length) (k:LeastTold Pt l P st.length H Q) (q:∀ cs,(∀ c∈cs,c < l.length)→(wayN st b cs∈es↔P cs)):LeastOut Pt l b es st H Q:=fun m' k' N H' e T' few hN hL=>by
 have h:=LM.of nd (stD:=_) (esD:=_) (k:=k') (N:=N) ⟨R,hb,few,hN,rfl,rfl⟩
 exact k m' _ _ H' e T' (h.1.cong q) h.2 hL
inductive spContrLI (Pt:Addr) (vs:List V) (H:Hp) (Q:VK):Prop
 | mk (m:Addr) (l:Str) (b:Nat) (es:List Nat) (st:List (List Nat)) (h1:vs=[.ref m]) (h2:MachAt H m l b es st) (h3:es.length≤500) (h4:l.cps.toList.Nodup) (h5:Tb Pt tabLeast H) (h6:LeastTold Pt l (fun cs=>¬ wayN st b cs∈es) st.length H Q):spContrLI Pt vs H Q
def spContrL (Pt:Addr):Sp:=fun vs H Q u3_=>spContrLI Pt vs H Q
theorem contrL_imp {Pt:Addr}:∀ vs H Q E,spContrL Pt vs H Q E→spContr Pt vs H Q E:=by
 rintro vs H Q E ⟨m,l,b,es,st,rfl,M,hes,nd,T,k⟩
 refine ⟨m,l,b,es,st,rfl,M,hes,T,leastOut_imp nd M.rows M.beg k fun cs hc=>?_⟩
 rw [cpl_mem]
 exact ⟨fun h=>h.2,fun h=>⟨wayN_lt M.rows cs b M.beg hc,h⟩⟩
inductive spBehindLI (Pt:Addr) (vs:List V) (H:Hp) (Q:VK):Prop
 | mk (m:Addr) (l:Str) (b:Nat) (es:List Nat) (st:List (List Nat)) (t:Str) (h1:vs=[.ref m,.str t]) (h2:MachAt H m l b es st) (h3:es.length≤500) (h4:(∀ c∈t.cps.toList,c∈l.cps.toList)) (h5:l.cps.toList.Nodup) (h6:Tb Pt tabLeast H) (h7:LeastTold Pt l (fun cs=>wayN st b (tx l t ++ cs)∈es) st.length H Q):spBehindLI Pt vs H Q
def spBehindL (Pt:Addr):Sp:=fun vs H Q u3_=>spBehindLI Pt vs H Q
theorem behindL_imp {Pt:Addr}:∀ vs H Q E,spBehindL Pt vs H Q E→spBehind Pt vs H Q E:=by
 rintro vs H Q E ⟨m,l,b,es,st,t,rfl,M,hes,ht,nd,T,k⟩
 refine ⟨m,l,b,es,st,t,rfl,M,hes,ht,T,leastOut_imp nd M.rows (way_lt M _ _ M.beg ht) k fun cs hc=>?_⟩
 rw [wayN_app,way_N]
 exact Iff.rfl
inductive spAheadLI (Pt:Addr) (vs:List V) (H:Hp) (Q:VK):Prop
 | mk (m:Addr) (l:Str) (b:Nat) (es:List Nat) (st:List (List Nat)) (t:Str) (h1:vs=[.ref m,.str t]) (h2:MachAt H m l b es st) (h3:es.length≤500) (h4:(∀ c∈t.cps.toList,c∈l.cps.toList)) (h5:l.cps.toList.Nodup) (h6:Tb Pt tabLeast H) (h7:LeastTold Pt l (fun cs=>wayN st b (cs ++ tx l t)∈es) st.length H Q):spAheadLI Pt vs H Q
def spAheadL (Pt:Addr):Sp:=fun vs H Q u3_=>spAheadLI Pt vs H Q
theorem aheadL_imp {Pt:Addr}:∀ vs H Q E,spAheadL Pt vs H Q E→spAhead Pt vs H Q E:=by
 rintro vs H Q E ⟨m,l,b,es,st,t,rfl,M,hes,ht,nd,T,k⟩
 refine ⟨m,l,b,es,st,t,rfl,M,hes,ht,T,leastOut_imp nd M.rows M.beg k fun cs hc=>?_⟩
 rw [wayN_app,ahE_mem,way_N]
 exact ⟨fun h=>h.2,fun h=>⟨wayN_lt M.rows cs b M.beg hc,h⟩⟩
inductive spEitherI (Pb:Addr) (Pl:Addr) (vs:List V) (H:Hp) (Q:VK):Prop
 | mk (m1 m2:Addr) (l:Str) (b1 b2:Nat) (es1 es2:List Nat) (st1 st2:List (List Nat)) (h1:vs=[.ref m1,.ref m2]) (h2:MachAt H m1 l b1 es1 st1) (h3:MachAt H m2 l b2 es2 st2) (h4:es1.length≤500) (h5:es2.length≤500) (h6:st1.length * st2.length≤216) (h7:l.cps.toList.Nodup) (h8:Tb Pb tabBoth H) (h9:Tb Pl tabLeast H) (h10:Pb≠Pl) (h11:BothTold Pb Pl l (fun cs=>wayN st1 b1 cs∈es1∨wayN st2 b2 cs∈es2) (st1.length * st2.length) H Q):spEitherI Pb Pl vs H Q
def spEither (Pb Pl:Addr):Sp:=fun vs H Q u3_=>spEitherI Pb Pl vs H Q
theorem ok_either {f:Addr} {fd:FuncData} {Pb Pl:Addr} (F:Fun K "either" "either" s_either f fd) (Z:Blt mg) (C_contrary:Cal P w K mg base "contrary" 6 ["machine"] (spContrL Pl)) (C_both:Cal P w K mg base "both" 6 ["one","other"] (spBoth Pb Pl)):FnOk P w K mg base CX0 7 f fd ["one","other"] (spEither Pb Pl):=by
 refine F.ok sc_either (fun vs H Q E h=>?_) (fun cdv A outer s H vs Q E hr h=>?_)
 ·obtain ⟨m1,m2,l,b1,b2,es1,es2,st1,st2,rfl,_⟩:=h
  rfl
 obtain ⟨m1,m2,l,b1,b2,es1,es2,st1,st2,rfl,M1,M2,he1,he2,hmul,nd,TB,TL0,nbl,k⟩:=h
 refine ⟨_,(pss_one (ps_ret (pe_c C_contrary (hr.mono (by decide)) (pa_cons (pe_c C_both (hr.mono (by decide)) (pa_cons (pe_c C_contrary (hr.mono (by decide)) (pa_cons (pv 0) pa_nil)) (pa_cons (pe_c C_contrary (hr.mono (by decide)) (pa_cons (pv 1) pa_nil)) pa_nil))) pa_nil)))),?_⟩
 have hl3:0 < l.length∧l.length≤3:=⟨M1.few.1,M1.few.2.1⟩
 have c1:=M1.few.2.2
 have c2:=M2.few.2.2
 refine ⟨_,rfl,m1,l,b1,es1,st1,rfl,M1,he1,nd,TL0,fun x1 s1 f1 H1 e1 T1 D1 n1 L1=>?_⟩
 have TB1:=Tb.sameT TB TL0 nbl e1
 have k1:=Tk.t e1 TL0
 refine ⟨_,rfl,m2,l,b2,es2,st2,rfl,M2.keep k1,he2,nd,T1,fun x2 s2 f2 H2 e2 T2 D2 n2 L2=>?_⟩
 have TB2:=Tb.sameT TB1 T1 nbl e2
 have k2:=Tk.t e2 T1
 have hm2:s1.length * s2.length≤st1.length * st2.length:=Nat.mul_le_mul n1 n2
 refine ⟨x1,x2,l,0,0,f1,f2,s1,s2,rfl,D1.mach hl3 (by omega) (L1.keep k2),D2.mach hl3 (by omega) L2,by omega,nd,TB2,T2,nbl,fun x3 s3 f3 H3 e3 TB3 T3 D3 n3 L3=>?_⟩
 have hf3:=D3.ends.1
 refine ⟨x3,l,0,f3,s3,rfl,D3.mach hl3 (by omega) L3,by omega,nd,T3,fun x4 s4 f4 H4 e4 T4 D4 n4 L4=>?_⟩
 refine k x4 s4 f4 H4 (fun b o q1 q2 h=>e4 _ _ q2 (e3 _ _ q1 q2 (e2 _ _ q2 (e1 _ _ q2 h)))) (Tb.sameT TB3 T3 nbl e4) T4 (D4.cong fun cs hc=>?_) (by omega) L4
 rw [D3.lg cs hc,D1.lg cs hc,D2.lg cs hc]
 exact ⟨fun h=>Classical.byContradiction fun z=>h ⟨fun q=>z (.inl q),fun q=>z (.inr q)⟩,fun h z=>h.elim z.1 z.2⟩
abbrev tabPart:List (Pos × Str):=[(⟨68,35,68,93⟩,"parting_text" ++ ".<locals>." ++ "<lambda>")]
theorem gP_way {l:Str} {st1 st2:List (List Nat)} {H:Hp} {m1 m2:Addr} {b1 b2:Nat} {es1 es2:List Nat} (M1:MachAt H m1 l b1 es1 st1) (M2:MachAt H m2 l b2 es2 st2):∀ (t:List Nat) (x y:Nat),x < st1.length→y < st2.length→(∀ c∈t,c∈l.cps.toList)→t.foldl (gP l st1 st2) (x * st2.length+y)=way l st1 x t * st2.length+way l st2 y t
 | [],_,_,_,_,_=>rfl
 | c :: t,x,y,hx,hy,h=>by
  have hc:=h c List.mem_cons_self
  show t.foldl (gP l st1 st2) (gP l st1 st2 (x * st2.length+y) c)=_
  unfold gP
  rw [(pair_div hy).1,(pair_div hy).2]
  exact gP_way M1 M2 t _ _ (stp_lt M1 hx hc) (stp_lt M2 hy hc) fun d hd=>h d (List.mem_cons_of_mem _ hd)
inductive spPartI (Pp:Addr) (vs:List V) (H:Hp) (Q:VK):Prop
 | mk (m1 m2:Addr) (l:Str) (b1 b2:Nat) (es1 es2:List Nat) (st1 st2:List (List Nat)) (h1:vs=[.ref m1,.ref m2]) (h2:MachAt H m1 l b1 es1 st1) (h3:MachAt H m2 l b2 es2 st2) (h4:st1.length * st2.length≤216) (h5:Tb Pp tabPart H) (h6:(∀ H',SameT Pp H H'→Tb Pp tabPart H'→Q .non H')) (h7:∀ (t:Str) H',SameT Pp H H'→Tb Pp tabPart H'→(∀ c∈t.cps.toList,c∈l.cps.toList)→t.length≤300→¬ (way l st1 b1 t.cps.toList∈es1↔way l st2 b2 t.cps.toList∈es2)→Q (.str t) H'):spPartI Pp vs H Q
def spPart (Pp:Addr):Sp:=fun vs H Q u3_=>spPartI Pp vs H Q
theorem ok_parting_text {f:Addr} {fd:FuncData} (F:Fun K "parting_text" "parting_text" s_parting_text f fd) (Z:Blt mg) {cw Pp:Addr} (hcode:fd.code=.ref cw) (CH:PySem.W.CodeHd base cw Pp) (BM:BltM mg base) (C_look_fit:Cal P w K mg base "look_fit" 1 ["one","other"] spFit)
  (CW:∀ base,Cal P w K mg base "walked" 4 ["letters","begin","step"] (spWkT P w K mg base 3)) (CB:∀ base,Cal P w K mg base "pair_behind" 2 ["one","other","pair","letter"] spPairB):FnOk P w K mg base CX0 5 f fd ["one","other"] (spPart Pp):=by
 refine F.okC sc_parting_text (fun vs H Q E h=>?_) (fun A outer s H vs Q E hr h=>?_)
 ·obtain ⟨m1,m2,l,b1,b2,es1,es2,st1,st2,rfl,_⟩:=h
  rfl
 obtain ⟨m1,m2,l,b1,b2,es1,es2,st1,st2,rfl,M1,M2,hmul,TP,kn,kt⟩:=h
 have tabU:∀ x∈tabPart,x.1.line=(⟨68,35,68,93⟩:Pos).line→x.1.col=(⟨68,35,68,93⟩:Pos).col→x.2 = "parting_text" ++ ".<locals>." ++ "<lambda>":=fun x hx _ _=>by rw [List.mem_singleton.mp hx]
 let tabL:=tabPart
 have C_walked:=CW base
 refine ⟨_,(pss_cons (ps_expr (pe_c C_look_fit (hr.mono (by decide)) (pa_cons (pv 0) (pa_cons (pv 1) pa_nil)))) 
   (pss_cons (ps_set (i:=2) sc_parting_text.nd (by rfl) (Or.inl (by rfl)) (pe_tup (pa_cons (pe_ix (ix_tupK (K:=K)) (pv 0) pe_int (fun _ _=>rfl)) (pa_cons (pe_ix (ix_tupK (K:=K)) (pv 1) pe_int (fun _ _=>rfl)) pa_nil)))) 
   (pss_cons (ps_set (i:=3) sc_parting_text.nd (by rfl) (Or.inl (by rfl)) (pe_cE C_walked (hr.mono (by decide)) (pa_cons (pe_ix (ix_tupK (K:=K)) (pv 0) pe_int (fun _ _=>rfl)) (pa_cons (pv 2) (pa_cons (pe_lam (L:=tabL) (sc:=defScope s_parting_text) hcode CH BM (by first | exact List.mem_cons_self | exact List.mem_cons_of_mem _ List.mem_cons_self) tabU) pa_nil))))) 
   (pss_cons (ps_for PassesOwn.never (by rfl) (pi_dictT (pv 3)) (pg_name (i:=4) sc_parting_text.nd (by rfl) (Or.inl (by rfl))) 
    (pss_one (ps_if (pt_cmpR op_ne (pe_cmpR (op_inK (K:=K)) (pe_ix (ix_tupK (K:=K)) (pv 4) pe_int (fun _ _=>rfl)) (pe_ix (ix_tupK (K:=K)) (pv 0) pe_int (fun _ _=>rfl)) (by with_unfolding_all rfl)) (pe_cmpR (op_inK (K:=K)) (pe_ix (ix_tupK (K:=K)) (pv 4) pe_int (fun _ _=>rfl)) (pe_ix (ix_tupK (K:=K)) (pv 1) pe_int (fun _ _=>rfl)) (by with_unfolding_all rfl)) (nomark _)) 
     (pss_one (ps_ret (pe_dget (hu_of hr) (pv 3) (pv 4) (fun _ _=>rfl)))) pss_nil))) 
   (pss_one (ps_ret pe_non)))))),?_⟩
 refine (let zz0:TS:=_; let zz1:TS:=tSeq _ zz0; let zz2:TS:=tSeq _ zz1; let zz3:TS:=tSeq _ zz2; (?_:tSeq _ zz3 _ _ _))
 have hn1:=M1.beg
 have hn2:=M2.beg
 refine ⟨_,rfl,_,rfl,m1,m2,l,b1,b2,es1,es2,st1,st2,rfl,M1,M2,?_⟩
 obtain ⟨eA,sA,rA,g1,g2,g3,g4,g5⟩:=M1.lay
 obtain ⟨eB,sB,rB,p1,p2,p3,p4,p5⟩:=M2.lay
 refine ⟨_,rfl,m1,_,_,_,rfl,rfl,SqT.of g1,atI_nat (j:=1) rfl,_,rfl,m2,_,_,_,rfl,rfl,SqT.of p1,atI_nat (j:=1) rfl,(by show 2≤sizeLine; decide),fun a0 ha0=>?_⟩
 have s1:=same_new ha0 (.tup [nI b1,nI b2])
 have h1a:upd H a0 (.tup [nI b1,nI b2]) a0=some (.tup [nI b1,nI b2]):=upd_same
 have TP1:=TP.same s1
 generalize upd H a0 (.tup [nI b1,nI b2])=H1 at s1 h1a TP1
 refine ⟨_,rfl,m1,_,_,_,rfl,rfl,SqT.of (s1 _ _ g1),atI_nat (j:=0) rfl,_,rfl,TP1,fun H2 f2 c2 ct2 e2 TP2 hf20 hf2 hc2 base' B=>?_⟩
 have k2:=(Tk.same s1).trans (Tk.t e2 TP1)
 have M12:=M1.keep k2
 have M22:=M2.keep k2
 have h2a:=Tk.t e2 TP1 _ _ h1a
 have C_pair_behind:=CB base'
 have hpl:∀ x,x < st1.length * st2.length→x / st2.length < st1.length∧x % st2.length < st2.length:=fun x hx=>⟨Nat.div_lt_of_lt_mul (by rw [Nat.mul_comm]; exact hx),Nat.mod_lt _ (by omega)⟩
 have hgP:∀ x c,x < st1.length * st2.length→c∈l.cps.toList→gP l st1 st2 x c < st1.length * st2.length:=fun x c hx hc=>pair_lt (stp_lt M1 (hpl x hx).1 hc) (stp_lt M2 (hpl x hx).2 hc)
 have kv:∀ x,(kP st2.length x).map kV=[nI (x / st2.length),nI (x % st2.length)]:=fun x=>rfl
 have hbb:(b1 * st2.length+b2) / st2.length=b1∧(b1 * st2.length+b2) % st2.length=b2:=pair_div hn2
 refine ⟨_,_,CW base',f2,_,["pair","letter"],l,a0,b1 * st2.length+b2,gP l st1 st2,kP st2.length,(fun x=>x < st1.length * st2.length),(fun H=>MachAt H m1 l b1 es1 st1∧MachAt H m2 l b2 es2 st2∧H c2=some (CdO c2 ("parting_text" ++ ".<locals>." ++ "<lambda>"))),?_,?_,?_,rfl,?_,pair_lt hn1 hn2,fun x hx=>⟨Nat.lt_of_lt_of_le hx hmul,fun c hc=>hgP x c hx hc⟩,fun x y _ _ h=>kP_inj h,hf2,⟨M12,M22,hc2⟩,fun d H3 N hd e3 T3 hN=>?_⟩
 ·refine lam_ok (N:=["pair","letter","one","other"]) (fv:=[.ref m1,.ref m2]) ⟨rfl,rfl,rfl,by decide,rfl,by decide +kernel,by decide +kernel⟩ (B.cl (sc:=defScope s_parting_text) [0,1] rfl (by decide +kernel) rfl rfl (fun j i x a b=>?_) (fun j i x a b=>?_)) (fun vs H Q E h=>?_) (fun vs H Q E h=>?_) (fun A outer s H vs Q E hr h=>?_)
  ·match j,a,b with
   | 0,a,b=>cases a; cases b; exact ⟨rfl,rfl⟩
   | 1,a,b=>cases a; cases b; exact ⟨rfl,rfl⟩
   | j+2,a,_=>simp at a
  ·match j,a,b with
   | 0,a,b=>cases a; cases b; rfl
   | 1,a,b=>cases a; cases b; rfl
   | j+2,a,_=>simp at a
  ·obtain ⟨a,x,c,rfl,_⟩:=h
   rfl
  ·obtain ⟨a,x,c,rfl,_,_,_,h1,h2,_⟩:=h
   exact ⟨h1,h2.2.2⟩
  ·obtain ⟨a,x,c,rfl,ha,hx,hc,h1,⟨q1,q2,_⟩,k⟩:=h
   refine ⟨_,(pe_c C_pair_behind (hr.mono (by decide)) (pa_cons (pv 2) (pa_cons (pv 3) (pa_cons (pv 0) (pa_cons (pv 1) pa_nil))))),?_⟩
   refine ⟨_,rfl,_,rfl,_,rfl,_,rfl,m1,m2,a,l,b1,b2,es1,es2,st1,st2,x / st2.length,x % st2.length,c,rfl,q1,q2,ha,(hpl x hx).1,(hpl x hx).2,hc,fun r H' e' hr'=>k r H' e' ?_⟩
   rw [kv]
   have hd:=pair_div (x:=stp l st1 (x / st2.length) c) (stp_lt M2 (hpl x hx).2 hc)
   show H' r=some (.tup [nI (gP l st1 st2 x c / st2.length),nI (gP l st1 st2 x c % st2.length)])
   unfold gP
   rw [hd.1,hd.2]
   exact hr'
 ·exact .all fun us hl=>match us,hl with | [_,_],_=>rfl
 ·exact fun H1 H2 e ⟨a1,a2,a3⟩=>⟨a1.same e,a2.same e,e _ _ a3⟩
 ·rw [kv,hbb.1,hbb.2]
  exact h2a
 have TP3:=TP2.same e3
 have e03:SameT Pp H H3:=(s1.t.trans e2).trans e3.t
 have k3:=k2.trans (Tk.same e3)
 have oP:∀ y∈ordK id (TL l (gP l st1 st2)) (b1 * st2.length+b2) N,y < st1.length * st2.length:=ordK_all (P:=fun x=>x < st1.length * st2.length) (pair_lt hn1 hn2) (fun x hx y hy=>by
  obtain ⟨c,hc,rfl⟩:=List.mem_map.mp hy
  exact hgP x c hx hc) N
 have oN:(ordK id (TL l (gP l st1 st2)) (b1 * st2.length+b2) N).Nodup:=by
  have:=ordK_nd (k:=id) (T:=TL l (gP l st1 st2)) (b:=b1 * st2.length+b2) N
  rwa [List.map_id] at this
 generalize ordK id (TL l (gP l st1 st2)) (b1 * st2.length+b2) N=o at T3 hN oP oN
 obtain ⟨kvs,h3d,hkk,hkv⟩:=T3
 have hkl:kvs.length=o.length:=by
  have:=congrArg List.length hkk
  rwa [List.length_map,List.length_map] at this
 refine ⟨_,rfl,d,kvs,rfl,.inl ⟨h3d,fun ob bs KB=>?_⟩⟩
 have hd0:H d=none:=by
  cases hc:H d with
  | none=>rfl
  | some u=>
   by_cases z:d=Pp
   ·obtain ⟨ps,hp,_⟩:=TP2
    rw [z,hp] at hd
    cases hd
   ·rw [e2 _ _ z (s1 _ _ hc)] at hd
    cases hd
 have tkd:=Tk.dct h3d (.frz ob (.dT kvs))
 have e4:SameT Pp H (upd H3 d (.frz ob (.dT kvs))):=fun b u n h=>by
  rw [upd_ne (ne_of_none h hd0)]
  exact e03 _ _ n h
 have TP4:Tb Pp tabPart (upd H3 d (.frz ob (.dT kvs))):=by
  obtain ⟨ps,q1,q2,q3⟩:=TP3
  exact ⟨ps,(upd_ne (ne_of q1 h3d fun z=>nomatch z)).trans q1,q2,fun x hx=>(q3 x hx).imp id fun ⟨c,a,b⟩=>⟨c,a,(upd_ne (ne_of b h3d fun z=>nomatch z)).trans b⟩⟩
 have h4d:upd H3 d (.frz ob (.dT kvs)) d=some (.frz ob (.dT kvs)):=upd_same
 have k4:=k3.trans tkd
 generalize upd H3 d (.frz ob (.dT kvs))=H4 at e4 TP4 h4d k4 KB
 refine for_dictT (a:=d) (o:=ob) (kvs:=kvs) (bs:=bs) (fun i σ H5=>∃ v4,σ=[some (.ref m1),some (.ref m2),some (.ref a0),some (.ref d),v4]∧H5=H4) ⟨none,rfl,rfl⟩ (fun i σ H5 _ h=>?_) ?_ ?_
 ·obtain ⟨_,_,rfl⟩:=h
  exact h4d
 ·rintro i ba σ H5 hq ⟨v4,rfl,rfl⟩
  have hi:i < o.length:=by rw [← hkl,← KB.1]; exact (List.getElem?_eq_some_iff.mp hq).1
  have hox:o[i]? = some o[i]:=List.getElem?_eq_getElem hi
  generalize o[i]=x at hox
  have hik:i < kvs.length:=by omega
  have e1:kvs[i]? = some (kvs[i].1,kvs[i].2):=List.getElem?_eq_getElem hik
  have e2':(kvs.map (·.1))[i]? = some (kP st2.length x):=by rw [hkk,List.getElem?_map,hox]; rfl
  rw [List.getElem?_map,e1] at e2'
  have e3':kvs[i].1=kP st2.length x:=Option.some.inj e2'
  have hba:=KB.2 i ba _ _ hq e1
  rw [e3'] at hba
  have hba':H5 ba=some (.tup [nI (x / st2.length),nI (x % st2.length)]):=hba
  obtain ⟨z,hz,hzl,hzc,hzw⟩:=hkv i _ _ _ e1 hox
  have hxp:=oP x (List.mem_of_getElem? hox)
  rw [gP_way M1 M2 _ _ _ hn1 hn2 hzc] at hzw
  have hd2:=pair_div (x:=way l st1 b1 z.cps.toList) (way_lt M2 z.cps.toList b2 hn2 hzc)
  rw [hzw] at hd2
  have i1:inV (nI (x / st2.length)) (es1.map nI)=decide (way l st1 b1 z.cps.toList∈es1):=by rw [← hd2.1]; exact inV_nI _ es1
  have i2:inV (nI (x % st2.length)) (es2.map nI)=decide (way l st2 b2 z.cps.toList∈es2):=by rw [← hd2.2]; exact inV_nI _ es2
  refine ⟨_,rfl,ba,_,_,_,rfl,rfl,SqT.of hba',atI_nat (j:=0) rfl,_,rfl,m1,_,_,_,rfl,rfl,SqT.of (k4 _ _ g1),atI_nat (j:=2) rfl,eA,_,rfl,.inr (SqT.of (k4 _ _ g2)),rfl,flat_nI es1,?_⟩
  refine ⟨_,rfl,ba,_,_,_,rfl,rfl,SqT.of hba',atI_nat (j:=1) rfl,_,rfl,m2,_,_,_,rfl,rfl,SqT.of (k4 _ _ p1),atI_nat (j:=2) rfl,eB,_,rfl,.inr (SqT.of (k4 _ _ p2)),rfl,flat_nI es2,rfl,_,rfl,?_⟩
  rw [i1,i2]
  refine ite2 (fun c=>?_) (fun c=>?_)
  ·have hv:valV kvs (kP st2.length x)=some kvs[i].2:=by
    obtain ⟨j,v,q1,q2,q3⟩:=keysT_yes (pl:=fun x=>x < st1.length * st2.length) (fun x y _ _ h=>kP_inj h) hxp hkk oP (List.mem_of_getElem? hox)
    obtain ⟨hj,ej⟩:=List.getElem?_eq_some_iff.mp q2
    obtain ⟨hi',ei⟩:=List.getElem?_eq_some_iff.mp hox
    have j1:=List.Nodup.idxOf_getElem oN j hj
    have j2:=List.Nodup.idxOf_getElem oN i hi'
    rw [ej] at j1
    rw [ei,j1] at j2
    subst j2
    rw [e1] at q1
    rw [q3]
    exact congrArg some (congrArg Prod.snd (Option.some.inj q1)).symm
   refine ⟨_,rfl,_,rfl,d,kvs[i].2,rfl,?_,?_⟩
   ·rw [← hv]
    exact .inr ⟨kvs,kP st2.length x,ba,.inr ⟨ob,h4d⟩,rfl,hba,rfl⟩
   ·rw [hz]
    refine kt z H5 e4 TP4 hzc hzl fun q=>?_
    have c':(!decide (V.bl (decide (way l st1 b1 z.cps.toList∈es1))=V.bl (decide (way l st2 b2 z.cps.toList∈es2))))=true:=c
    have e:decide (way l st1 b1 z.cps.toList∈es1)=decide (way l st2 b2 z.cps.toList∈es2):=decide_eq_decide.mpr q
    rw [e] at c'
    simp at c'
  ·exact ⟨_,rfl,rfl⟩
 ·rintro σ H5 ⟨v4,rfl,rfl⟩
  exact kn _ e4 TP4
def lwO (S:List Nat) (st:List (List Nat)) (b N:Nat):List Nat:=ordK (fun x=>S.getD x 0) (fun x=>st.getD x []) b N
inductive spLLeastI (vs:List V) (H:Hp) (Q:VK):Prop
 | mk (m:Addr) (l:Str) (b:Nat) (es:List Nat) (st:List (List Nat)) (h1:vs=[.ref m]) (h2:MachAt H m l b es st) (h3:es.length≤500) (h4:∀ m' S N H',Same H H'→(∀ i j,i < st.length→j < st.length→(S.getD i 0=S.getD j 0↔Fut st es l.length i j))→(lwO S st b N).length≤N→(lwO S st b N).length≤st.length→MLay H' m' l 0 (endsK (lwO S st b N) fun x=>decide (x∈es)) (rowsK (fun x=>S.getD x 0) (fun x=>st.getD x []) (lwO S st b N))→Q (.ref m') H'):spLLeastI vs H Q
def spLLeast:Sp:=fun vs H Q u3_=>spLLeastI vs H Q
def llW (H:Hp) (m eA sA:Addr) (l:Str) (b:Nat) (es:List Nat) (st:List (List Nat)) (mm:Nat) (σ:L2.St) (H5:Hp):Prop:=∃ (k cnt:Nat) (lp:Addr) (v7 v8 v9:Option V),mm=st.length+1 - cnt∧σ=[some (.ref m),some (.str l),some (nI b),some (.ref eA),some (.ref sA),some (.ref lp),some (nI cnt),v7,v8,v9,none,none,none,none,none]∧H5 lp=some (.lst ((lwN st es k).map nI))∧Same H H5∧((k=0∧cnt=0)∨∃ j,k=j+1∧cnt=dn (lwN st es j))
def llD (H:Hp) (m eA sA:Addr) (l:Str) (b:Nat) (es:List Nat) (st:List (List Nat)) (H7:Hp) (lp yr dp:Addr) (k':Nat) (acc:List V) (rs:List (List Nat)) (i:Nat) (σ:L2.St) (H11:Hp):Prop:=∃ (v9:Option V),σ=[some (.ref m),some (.str l),some (nI b),some (.ref eA),some (.ref sA),some (.ref lp),some (nI (dn (lwN st es k'))),some (.ref yr),some (.ref dp),v9,none,none,none,none,none]∧H11 yr=some (.lst acc)∧H11 dp=some (.dT (nbG (fun r:List Nat=>r.map kI) 0 (mets (rs.take i))))∧RowsN H11 acc rs∧Same H7 H11
def llO (H:Hp) (m eA sA:Addr) (l:Str) (b:Nat) (es:List Nat) (st:List (List Nat)) (S:List Nat) (H6:Hp) (lp op dp:Addr) (j:Nat) (v7 v8 v9:Option V) (mm:Nat) (σ:L2.St) (H10:Hp):Prop:=∃ (i:Nat) (v13:Option V),mm=217 - i∧i≤(lwO S st b i).length∧σ=[some (.ref m),some (.str l),some (nI b),some (.ref eA),some (.ref sA),some (.ref lp),some (nI (dn (lwN st es j))),v7,v8,v9,some (.ref op),some (.ref dp),some (nI i),v13,none]∧H10 op=some (.lst ((lwO S st b i).map nI))∧H10 dp=some (.dK (nbG kI 0 ((lwO S st b i).map fun x=>S.getD x 0)))∧Same H6 H10
theorem ok_law_least {f:Addr} {fd:FuncData} (F:Fun K "_law_least" "_law_least" s_law_least f fd) (Z:Blt mg):FnOk P w K mg base CX0 1 f fd ["_law_machine_here"] spLLeast:=by
 refine F.ok sc_law_least (fun vs H Q E h=>?_) (fun cdv A outer s H vs Q E hr h=>?_)
 ·obtain ⟨m,l,b,es,st,rfl,_⟩:=h
  rfl
 obtain ⟨m,l,b,es,st,rfl,M,hes,k⟩:=h
 refine ⟨_,(pss_cons (ps_asg (pv 0) (pg_tupK (K:=K) (n:=4) (by rfl) (pgs_cons (pg_name (i:=1) sc_law_least.nd (by rfl) (Or.inl (by rfl))) (pgs_cons (pg_name (i:=2) sc_law_least.nd (by rfl) (Or.inl (by rfl))) (pgs_cons (pg_name (i:=3) sc_law_least.nd (by rfl) (Or.inr (by rfl))) (pgs_cons (pg_name (i:=4) sc_law_least.nd (by rfl) (Or.inr (by rfl))) pgs_nil)))))) 
   (pss_cons (ps_set (i:=5) sc_law_least.nd (by rfl) (Or.inr (by rfl)) (pe_comp (sc:=defScope s_law_least) (Nm:=["_law_machine_here","_law_letters_here","_law_begin","_law_ends","_law_steps","_law_sort","_law_many","_law_rows","_law_known","_law_row","_law_order","_law_numbers","_law_at","_law_to","_law_found"]) (own:=["_law_room"]) (fr:=[3]) ⟨rfl,by decide +kernel,by decide +kernel,by decide +kernel,by decide +kernel⟩ (by rfl) (gfr_name (by decide)) (pi_range1 (by rfl) Z.range (pa_cons (pe_callB (call_lenK (K:=K)) (by rfl) Z.len bt_len (pa_cons (pv 4) pa_nil)) pa_nil)) (fun d=>(pg_name (i:=0) nd_law_least_0 (by rfl) (Or.inl (by rfl)))) (fun d=>pts_nil) (fun d=>(pe_callTy call_int1 (by rfl) Z.int bt_int (pa_cons (pe_cmpR (op_inK (K:=K)) (pv 0) (pv 1) (by with_unfolding_all rfl)) pa_nil))))) 
   (pss_cons (ps_set (i:=6) sc_law_least.nd (by rfl) (Or.inl (by rfl)) pe_int) 
   (pss_cons (ps_while PassesOwn.never (pt_cmpR op_gt (pe_callB call_lenSet (by rfl) Z.len bt_len (pa_cons (pe_callTy (call_setI (K:=K) (by rfl)) (by rfl) Z.set bt_set (pa_cons (pv 5) pa_nil)) pa_nil)) (pv 6) (nomark _)) 
    (pss_cons (ps_set (i:=6) sc_law_least.nd (by rfl) (Or.inl (by rfl)) (pe_callB call_lenSet (by rfl) Z.len bt_len (pa_cons (pe_callTy (call_setI (K:=K) (by rfl)) (by rfl) Z.set bt_set (pa_cons (pv 5) pa_nil)) pa_nil))) 
    (pss_cons (ps_setc (i:=7) sc_law_least.nd (by rfl) (by rfl) (sc:=defScope s_law_least) (Nm:=["_law_machine_here","_law_letters_here","_law_begin","_law_ends","_law_steps","_law_sort","_law_many","_law_rows","_law_known","_law_row","_law_order","_law_numbers","_law_at","_law_to","_law_found"]) (own:=["_law_room"]) (fr:=[4,5]) ⟨rfl,by decide +kernel,by decide +kernel,by decide +kernel,by decide +kernel⟩ (by rfl) (gfr_name (by decide)) (pi_range1 (by rfl) Z.range (pa_cons (pe_callB (call_lenK (K:=K)) (by rfl) Z.len bt_len (pa_cons (pv 4) pa_nil)) pa_nil)) (fun d=>(pg_name (i:=0) nd_law_least_1 (by rfl) (Or.inl (by rfl)))) (fun d=>pts_nil) (fun d=>(pe_op (op_catTK (K:=K)) (pe_tup (pa_cons (pe_ix (ix_listK (K:=K)) (pv 2) (pv 0) (fun _ _=>rfl)) pa_nil)) (pe_callTy (call_tupK (K:=K)) (by rfl) Z.tuple bt_tuple (pa_cons (pe_comp (sc:={ kind:=PySem.ScopeKind.function,names:=[ (PySem.Str.ofString ".0",PySem.NameKind.local),(PySem.Str.ofString "_law_room",PySem.NameKind.local),(PySem.Str.ofString "tuple",PySem.NameKind.globalImplicit),(PySem.Str.ofString "_law_sort",PySem.NameKind.cell),(PySem.Str.ofString "_law_steps",PySem.NameKind.cell)],isGenerator:=false,isCoroutine:=false,more:=[]:PySem.Scope }) (Nm:=["_law_room","_law_steps","_law_sort"]) (own:=["_law_to"]) (fr:=[2]) ⟨rfl,by decide +kernel,by decide +kernel,by decide +kernel,by decide +kernel⟩ (by rfl) (gfr_name (by decide)) (pi_tupK (K:=K) (pe_ix (ix_tupK (K:=K)) (pv 1) (pv 0) (fun _ _=>rfl))) (fun d=>(pg_name (i:=0) nd_law_least_2 (by rfl) (Or.inl (by rfl)))) (fun d=>pts_nil) (fun d=>(pe_ix (ix_listK (K:=K)) (pv 1) (pv 0) (fun _ _=>rfl)))) pa_nil))))) 
    (pss_cons (ps_set (i:=8) sc_law_least.nd (by rfl) (Or.inr (by rfl)) pe_dnewT) 
    (pss_cons (ps_for PassesOwn.never (by rfl) (pi_listK (K:=K) (pv 7)) (pg_name (i:=9) sc_law_least.nd (by rfl) (Or.inl (by rfl))) 
     (pss_one (ps_expr (pe_dsetT (hu_of hr) (pv 8) (pv 9) (pe_callB call_lenDT (by rfl) Z.len bt_len (pa_cons (pv 8) pa_nil)) ⟨rfl,rfl,rfl,rfl⟩)))) 
    (pss_one (ps_set (i:=5) sc_law_least.nd (by rfl) (Or.inr (by rfl)) (pe_comp (sc:=defScope s_law_least) (Nm:=["_law_machine_here","_law_letters_here","_law_begin","_law_ends","_law_steps","_law_sort","_law_many","_law_rows","_law_known","_law_row","_law_order","_law_numbers","_law_at","_law_to","_law_found"]) (own:=["_law_row"]) (fr:=[8]) ⟨rfl,by decide +kernel,by decide +kernel,by decide +kernel,by decide +kernel⟩ (by rfl) (gfr_name (by decide)) (pi_listK (K:=K) (pv 7)) (fun d=>(pg_name (i:=0) nd_law_least_3 (by rfl) (Or.inl (by rfl)))) (fun d=>pts_nil) (fun d=>(pe_dget (hu_of hr) (pv 1) (pv 0) (fun _ _=>rfl))))))))))) 
   (pss_cons (ps_set (i:=10) sc_law_least.nd (by rfl) (Or.inl (by rfl)) (pe_lst (pa_cons (pv 2) pa_nil))) 
   (pss_cons (ps_set (i:=11) sc_law_least.nd (by rfl) (Or.inr (by rfl)) (pe_disp (pps_cons (pe_ix (ix_listK (K:=K)) (pv 5) (pv 2) (fun _ _=>rfl)) pe_int pps_nil) (by rfl) (by rfl) (by intro h; cases h) (by show 1≤15; decide))) 
   (pss_cons (ps_set (i:=12) sc_law_least.nd (by rfl) (Or.inl (by rfl)) pe_int) 
   (pss_cons (ps_while PassesOwn.never (pt_cmpR op_lt (pv 12) (pe_callB (call_lenK (K:=K)) (by rfl) Z.len bt_len (pa_cons (pv 10) pa_nil)) (nomark _)) 
    (pss_cons (ps_for PassesOwn.never (by rfl) (pi_tupK (K:=K) (pe_ix (ix_tupK (K:=K)) (pv 4) (pe_ix (ix_listK (K:=K)) (pv 10) (pv 12) (fun _ _=>rfl)) (fun _ _=>rfl))) (pg_name (i:=13) sc_law_least.nd (by rfl) (Or.inl (by rfl))) 
     (pss_one (ps_if (pt_cmp (pc_dnotin (hu_of hr) (pe_ix (ix_listK (K:=K)) (pv 5) (pv 13) (fun _ _=>rfl)) (pv 11))) 
      (pss_cons (ps_dput (hu_of hr) (pv 11) (pe_ix (ix_listK (K:=K)) (pv 5) (pv 13) (fun _ _=>rfl)) (pe_callB call_lenDK (by rfl) Z.len bt_len (pa_cons (pv 11) pa_nil)) rfl) 
      (pss_one (ps_expr (pe_bmK (K:=K) PySem.F.plainAttrs_list PySem.F.slot_list_append PySem.F.type_list_append mt_append (pv 10) (pa_cons (pv 13) pa_nil))))) pss_nil))) 
    (pss_one (ps_set (i:=12) sc_law_least.nd (by rfl) (Or.inl (by rfl)) (pe_op op_add (pv 12) pe_int))))) 
   (pss_cons (ps_set (i:=14) sc_law_least.nd (by rfl) (Or.inl (by rfl)) (pe_callTy (call_tupK (K:=K)) (by rfl) Z.tuple bt_tuple (pa_cons (pe_comp (sc:=defScope s_law_least) (Nm:=["_law_machine_here","_law_letters_here","_law_begin","_law_ends","_law_steps","_law_sort","_law_many","_law_rows","_law_known","_law_row","_law_order","_law_numbers","_law_at","_law_to","_law_found"]) (own:=["_law_room"]) (fr:=[4,5,11]) ⟨rfl,by decide +kernel,by decide +kernel,by decide +kernel,by decide +kernel⟩ (by rfl) (gfr_name (by decide)) (pi_listK (K:=K) (pv 10)) (fun d=>(pg_name (i:=0) nd_law_least_4 (by rfl) (Or.inl (by rfl)))) (fun d=>pts_nil) (fun d=>(pe_callTy (call_tupK (K:=K)) (by rfl) Z.tuple bt_tuple (pa_cons (pe_comp (sc:={ kind:=PySem.ScopeKind.function,names:=[ (PySem.Str.ofString ".0",PySem.NameKind.local),(PySem.Str.ofString "_law_room",PySem.NameKind.local),(PySem.Str.ofString "tuple",PySem.NameKind.globalImplicit),(PySem.Str.ofString "_law_numbers",PySem.NameKind.cell),(PySem.Str.ofString "_law_sort",PySem.NameKind.cell),(PySem.Str.ofString "_law_steps",PySem.NameKind.cell)],isGenerator:=false,isCoroutine:=false,more:=[]:PySem.Scope }) (Nm:=["_law_room","_law_steps","_law_sort","_law_numbers"]) (own:=["_law_to"]) (fr:=[2,3]) ⟨rfl,by decide +kernel,by decide +kernel,by decide +kernel,by decide +kernel⟩ (by rfl) (gfr_name (by decide)) (pi_tupK (K:=K) (pe_ix (ix_tupK (K:=K)) (pv 1) (pv 0) (fun _ _=>rfl))) (fun d=>(pg_name (i:=0) nd_law_least_5 (by rfl) (Or.inl (by rfl)))) (fun d=>pts_nil) (fun d=>(pe_dget (hu_of hr) (pv 2) (pe_ix (ix_listK (K:=K)) (pv 1) (pv 0) (fun _ _=>rfl)) (fun _ _=>rfl)))) pa_nil)))) pa_nil))) 
   (pss_one (ps_ret (pe_tup (pa_cons (pv 1) (pa_cons pe_int (pa_cons (pe_callTy (call_tupK (K:=K)) (by rfl) Z.tuple bt_tuple (pa_cons (pe_comp (sc:=defScope s_law_least) (Nm:=["_law_machine_here","_law_letters_here","_law_begin","_law_ends","_law_steps","_law_sort","_law_many","_law_rows","_law_known","_law_row","_law_order","_law_numbers","_law_at","_law_to","_law_found"]) (own:=["_law_at","_law_room"]) (fr:=[3]) ⟨rfl,by decide +kernel,by decide +kernel,by decide +kernel,by decide +kernel⟩ (by rfl) (gfr_tup (gsfr_name (by decide) (gsfr_name (by decide) gsfr_nil))) (pi_enum (K:=K) (by rfl) Z.enumerate (pv 10)) (fun d=>(pg_tupK (K:=K) (n:=2) (by rfl) (pgs_cons (pg_name (i:=0) nd_law_least_6 (by rfl) (Or.inl (by rfl))) (pgs_cons (pg_name (i:=1) nd_law_least_6 (by rfl) (Or.inl (by rfl))) pgs_nil)))) (fun d=>(pts_one (pt_cmpR (op_inK (K:=K)) (pv 1) (pv 2) (by with_unfolding_all rfl)))) (fun d=>(pv 0))) pa_nil)) (pa_cons (pv 14) pa_nil)))))))))))))))),?_⟩
 refine (let zz0:TS:=_; let zz1:TS:=tSeq _ zz0; let zz2:TS:=_; let zz3:TS:=_; let zz4:TS:=tSeq _ zz3; let zz5:TS:=(tIfS _ zz4 _); let zz6:TS:=tSeq (tFor _ _ zz5) zz2; let zz7:TS:=tSeq (tWhile _ zz6) zz1; let zz8:TS:=tSeq _ zz7; let zz9:TS:=tSeq _ zz8; let zz10:TS:=tSeq _ zz9; let zz11:TS:=_; let zz12:TS:=tSeq _ zz11; let zz13:TS:=tSeq _ zz12; let zz14:TS:=tSeq _ zz13; let zz15:TS:=tSeq _ zz14; let zz16:TS:=tSeq (tWhile _ zz15) zz10; let zz17:TS:=tSeq _ zz16; let zz18:TS:=tSeq _ zz17; (?_:tSeq _ zz18 _ _ _))
 obtain ⟨eA,sA,ras,h1,h2,h3,h4,h5⟩:=M.lay
 have hst:=M.few.2.2
 have hll:=M.few.2.1
 have hbeg:=M.beg
 have hrect:Rect st l.length:=M.rows
 have hrl:(ras.map V.ref).length=st.length:=by rw [List.length_map,h4]
 have rowA:∀ x,x < st.length→∃ a,atI (ras.map V.ref) ((x:Nat):Int)=some (.ref a)∧H a=some (.tup ((st.getD x []).map nI)):=fun x hx=>by
  have hra:x < ras.length:=by omega
  exact ⟨ras[x],atI_nat (by rw [List.getElem?_map,List.getElem?_eq_getElem hra]; rfl),h5 x _ _ (List.getElem?_eq_getElem hra) (getD_mem (l:=st) (d:=[]) hx).2⟩
 refine ⟨_,rfl,m,_,rfl,SqT.of h1,rfl,_,_,rfl,_,_,rfl,_,_,rfl,_,_,rfl,rfl,?_⟩
 refine ⟨_,rfl,sA,_,rfl,.inr (SqT.of h3),_,rfl,by omega,by omega,?_⟩
 refine comp_range (lo:=0) (k:=((((ras.map V.ref).length:Nat):Int)).toNat) (fun i acc H2=>acc=(List.range i).map (fun r=>nI (if decide (r∈es)=true then 1 else 0))∧Same H H2) (Nat.lt_of_le_of_lt (show _≤216 by omega) (by decide)) ⟨rfl,Same.refl _⟩
  (fun i acc H2 p=>by rw [p.1,List.length_map,List.length_range]; exact Nat.le_refl _) (fun i acc H2 hi p=>cyes ?_) (fun acc H2 p y hy=>?_)
 ·obtain ⟨rfl,e2⟩:=p
  refine ⟨_,rfl,_,rfl,eA,_,rfl,.inr (SqT.of (e2 _ _ h2)),rfl,flat_nI es,.inr ⟨_,rfl,?_,e2⟩⟩
  have hin:inV (V.int (0+(i:Int))) (es.map nI)=decide (i∈es):=by
   rw [show (0:Int)+(i:Int)=((i:Nat):Int) by omega]
   exact inV_nI i es
  show _ ++ [V.int (if inV (V.int (0+(i:Int))) (es.map nI)=true then 1 else 0)]=_
  rw [hin,List.range_succ,List.map_append]
  refine congrArg (_ ++ ·) ?_
  show _=[nI (if decide (i∈es)=true then 1 else 0)]
  by_cases c:decide (i∈es)=true
  ·rw [if_pos c,if_pos c]; rfl
  ·rw [if_neg c,if_neg c]; rfl
 obtain ⟨rfl,e2⟩:=p
 have hk0:((((ras.map V.ref).length:Nat):Int)).toNat=st.length:=by omega
 rw [hk0]
 have hlw0:(List.range st.length).map (fun r=>nI (if decide (r∈es)=true then 1 else 0))=(lwN st es 0).map nI:=by
  show _=(lw0 es st.length).map nI
  unfold lw0
  rw [List.map_map]
  rfl
 have e3:=e2.trans (same_new hy (.lst ((List.range st.length).map fun r=>nI (if decide (r∈es)=true then 1 else 0))))
 have h3y:upd H2 y (.lst ((List.range st.length).map fun r=>nI (if decide (r∈es)=true then 1 else 0))) y=some (.lst ((lwN st es 0).map nI)):=by rw [upd_same,hlw0]
 generalize upd H2 y (.lst ((List.range st.length).map fun r=>nI (if decide (r∈es)=true then 1 else 0)))=H3 at e3 h3y
 have lkl:=lwN_len st es
 have dnl:∀ k,dn (lwN st es k)≤st.length:=fun k=>by
  have:=firstMet_length_le (fun i=>((lwN st es k).map fun n:Nat=>(n:Int)).getD i 0) ((lwN st es k).map fun n:Nat=>(n:Int)).length
  rw [List.length_map,lkl] at this
  unfold dn metI
  rw [List.length_map,lkl]
  exact this
 have dn1:0 < dn (lwN st es 0):=by
  have h:=firstMet_any (fun i=>((lwN st es 0).map fun n:Nat=>(n:Int)).getD i 0) ((lwN st es 0).map fun n:Nat=>(n:Int)).length (((lwN st es 0).map fun n:Nat=>(n:Int)).getD 0 0)
  have hin:((List.range ((lwN st es 0).map fun n:Nat=>(n:Int)).length).map fun i=>((lwN st es 0).map fun n:Nat=>(n:Int)).getD i 0).any (· == ((lwN st es 0).map fun n:Nat=>(n:Int)).getD 0 0)=true:=by
   rw [List.any_eq_true]
   exact ⟨_,List.mem_map.mpr ⟨0,List.mem_range.mpr (by rw [List.length_map,lkl]; omega),rfl⟩,by simp⟩
  rw [hin] at h
  unfold dn metI
  cases hc:firstMet (fun i=>((lwN st es 0).map fun n:Nat=>(n:Int)).getD i 0) ((lwN st es 0).map fun n:Nat=>(n:Int)).length with
  | nil=>rw [hc] at h; cases h
  | cons=>exact Nat.succ_pos _
 refine ⟨llW H m eA sA l b es st,
  ⟨_,0,0,y,none,none,none,rfl,rfl,h3y,e3,.inl ⟨rfl,rfl⟩⟩,?_⟩
 clear h3y hy e3 y
 rintro mm σ H5 ⟨k',cnt,lp,v7,v8,v9,rfl,rfl,h5l,e5,hcnt⟩
 have hns:(lwN st es k').map nI=((lwN st es k').map fun n:Nat=>(n:Int)).map V.int:=by rw [List.map_map]; rfl
 have hset:((lwN st es k').map fun n:Nat=>(n:Int)).length+1 < scanBound:=by
  rw [List.length_map,lkl]
  exact Nat.lt_of_le_of_lt (show st.length+1≤217 by omega) (by decide)
 refine ⟨_,rfl,lp,_,rfl,SqL.of (by rw [← hns]; exact h5l),hset,fun q hq=>⟨q,_,_,rfl,upd_same,_,rfl,_,_,rfl,rfl,_,rfl,?_⟩⟩
 have s6:=same_new hq (.set (fun k=>(metI ((lwN st es k').map fun n:Nat=>(n:Int))).any (· == k)) (metI ((lwN st es k').map fun n:Nat=>(n:Int))).length)
 have h6l:=s6 _ _ h5l
 have e6:=e5.trans s6
 refine ite2 (fun c1=>?_) (fun c1=>?_)
 ·have c2:((cnt:Nat):Int) < ((dn (lwN st es k'):Nat):Int):=of_decide_eq_true c1
  refine ⟨fun σ' H'=>∃ m',m' < st.length+1 - cnt∧_,fun _ _ z=>z,?_⟩
  refine ⟨_,rfl,lp,_,rfl,SqL.of (by rw [← hns]; exact h6l),hset,fun q2 hq2=>⟨q2,_,_,rfl,upd_same,?_⟩⟩
  have s7:=same_new hq2 (.set (fun k=>(metI ((lwN st es k').map fun n:Nat=>(n:Int))).any (· == k)) (metI ((lwN st es k').map fun n:Nat=>(n:Int))).length)
  have h7l:=s7 _ _ h6l
  have e7:=e6.trans s7
  have hdl:=dnl k'
  have hSl:=lkl k'
  have atL:∀ j,j < st.length→atI ((lwN st es k').map nI) ((j:Nat):Int)=some (nI ((lwN st es k').getD j 0)):=fun j hj=>atI_nat (by rw [List.getElem?_map,(getD_mem (l:=lwN st es k') (d:=0) (by rw [hSl]; exact hj)).2]; rfl)
  have hRl:(lkR st (lwN st es k')).length=st.length:=by unfold lkR; rw [List.length_map,List.length_range]
  generalize upd (upd H5 q (.set (fun k=>(metI ((lwN st es k').map fun n:Nat=>(n:Int))).any (· == k)) (metI ((lwN st es k').map fun n:Nat=>(n:Int))).length)) q2 (.set (fun k=>(metI ((lwN st es k').map fun n:Nat=>(n:Int))).any (· == k)) (metI ((lwN st es k').map fun n:Nat=>(n:Int))).length)=H7 at s7 h7l e7
  refine ⟨_,rfl,sA,_,rfl,.inr (SqT.of (e7 _ _ h3)),_,rfl,by omega,by omega,?_⟩
  refine comp_range (lo:=0) (k:=((((ras.map V.ref).length:Nat):Int)).toNat) (fun i acc H8=>RowsN H8 acc ((lkR st (lwN st es k')).take i)∧Same H7 H8) (Nat.lt_of_le_of_lt (show _≤216 by omega) (by decide)) ⟨⟨rfl,fun i x r a=>by simp at a⟩,Same.refl _⟩
   (fun i acc H8 p=>by rw [p.1.1,List.length_take]; exact Nat.min_le_left _ _) (fun i acc H8 hi p=>cyes ?_) (fun acc H8 p yr hyr=>?_)
  ·obtain ⟨R8,e8⟩:=p
   have hi':i < st.length:=by omega
   obtain ⟨a,ha1,ha2⟩:=rowA i hi'
   have hix:(0:Int)+(i:Int)=((i:Nat):Int):=by omega
   have e08:=e7.trans e8
   have hrw:=hrect _ (getD_mem (l:=st) (i:=i) (d:=[]) hi').1
   refine ⟨_,rfl,_,rfl,lp,_,_,_,rfl,rfl,SqL.of (e8 _ _ h7l),by rw [hix]; exact atL i hi',(by show 1≤sizeLine; decide),fun t1 ht1=>?_⟩
   have u1:=same_new ht1 (.tup [nI ((lwN st es k').getD i 0)])
   have h9t:upd H8 t1 (.tup [nI ((lwN st es k').getD i 0)]) t1=some (.tup [nI ((lwN st es k').getD i 0)]):=upd_same
   generalize upd H8 t1 (.tup [nI ((lwN st es k').getD i 0)])=H9 at u1 h9t
   have e09:=e08.trans u1
   refine ⟨_,rfl,_,rfl,sA,_,_,_,rfl,rfl,SqT.of (e09 _ _ h3),by rw [hix]; exact ha1,a,rfl,⟨_,SqT.of (e09 _ _ ha2)⟩,?_⟩
   refine comp_tup (K:=K) (a:=a) (xs:=(st.getD i []).map nI) (fun j acc H10=>acc=((st.getD i []).take j).map (fun x=>nI ((lwN st es k').getD x 0))∧Same H9 H10) (by rw [List.length_map]; exact small1000 (by omega)) ⟨rfl,Same.refl _⟩ (fun j acc H10 q=>by rw [q.1,List.length_map,List.length_take]; exact Nat.min_le_left _ _)
    (fun j acc H10 q=>SqT.of (q.2 _ _ (e09 _ _ ha2))) (fun j acc H10 x hxj q=>?_) (fun acc H10 q y hy=>?_)
   ·obtain ⟨rfl,e10⟩:=q
    rw [List.getElem?_map] at hxj
    cases hc:(st.getD i [])[j]? with
    | none=>rw [hc] at hxj; cases hxj
    | some c=>
     rw [hc] at hxj
     cases hxj
     refine cyes ⟨_,rfl,_,rfl,lp,_,_,_,rfl,rfl,SqL.of (e10 _ _ (u1 _ _ (e8 _ _ h7l))),atL c (hrw.2 c (List.mem_of_getElem? hc)),?_,e10⟩
     rw [map_take hc]
   obtain ⟨rfl,e10⟩:=q
   rw [List.length_map,List.take_length]
   have u2:=same_new hy (.lst ((st.getD i []).map fun x=>nI ((lwN st es k').getD x 0)))
   refine ⟨y,_,rfl,.inl ⟨SqL.of upd_same,fun z hz=>?_⟩⟩
   have u3:=same_new hz (.tup ((st.getD i []).map fun x=>nI ((lwN st es k').getD x 0)))
   have u13:=(e10.trans u2).trans u3
   have hz3:upd (upd H10 y (.lst ((st.getD i []).map fun x=>nI ((lwN st es k').getD x 0)))) z (.tup ((st.getD i []).map fun x=>nI ((lwN st es k').getD x 0))) z=some (.tup ((st.getD i []).map fun x=>nI ((lwN st es k').getD x 0))):=upd_same
   generalize upd (upd H10 y (.lst ((st.getD i []).map fun x=>nI ((lwN st es k').getD x 0)))) z (.tup ((st.getD i []).map fun x=>nI ((lwN st es k').getD x 0)))=H11 at u3 u13 hz3
   have hne:(st.getD i []).map (fun x=>nI ((lwN st es k').getD x 0))≠[]:=fun z=>by
    have:=congrArg List.length z
    rw [List.length_map,hrw.1] at this
    have h0:([]:List V).length=0:=rfl
    have:=M.few.1
    omega
   refine ⟨t1,z,_,_,rfl,rfl,SqT.of (u13 _ _ h9t),SqT.of hz3,(fun q=>nomatch q),by rw [List.length_map]; exact line_le (by show 1+_≤1000; omega),fun q=>absurd q hne,fun _ p hp=>?_⟩
   have u4:=same_new hp (.tup ([nI ((lwN st es k').getD i 0)] ++ (st.getD i []).map fun x=>nI ((lwN st es k').getD x 0)))
   have u04:=(u1.trans u13).trans u4
   refine ⟨?_,e8.trans u04⟩
   have hrow:(lkR st (lwN st es k'))[i]? = some ((lwN st es k').getD i 0 :: (st.getD i []).map fun x=>(lwN st es k').getD x 0):=lkR_at hi'
   rw [List.take_add_one,hrow]
   refine (R8.keep (Tk.same u04)).snoc ?_
   refine upd_same.trans ?_
   rw [List.map_cons,List.map_map]
   rfl
  obtain ⟨R8,e8⟩:=p
  rw [hk0,← hRl,List.take_length] at R8
  have w1:=same_new hyr (.lst acc)
  have h9y:upd H8 yr (.lst acc) yr=some (.lst acc):=upd_same
  have R9:=R8.keep (Tk.same w1)
  generalize upd H8 yr (.lst acc)=H9 at w1 h9y R9
  refine fun dp hdp=>?_
  have w2:=same_new hdp (.dT [])
  have h10d:upd H9 dp (.dT []) dp=some (.dT []):=upd_same
  have R10:=R9.keep (Tk.same w2)
  have nyd:yr≠dp:=ne_of_none h9y hdp
  have hdp7:=none_of (e8.trans w1) hdp
  have h10y:=w2 _ _ h9y
  have e10:=(e8.trans w1).trans w2
  generalize upd H9 dp (.dT [])=H10 at w2 h10d R10 h10y e10
  have hal:acc.length=st.length:=by rw [R10.1,hRl]
  have kmap:∀ r:List Nat,(r.map kI).map kV=r.map nI:=fun r=>by rw [List.map_map]; rfl
  generalize hrs:lkR st (lwN st es k')=rs at R8 R9 R10 hRl
  refine ⟨_,rfl,yr,rfl,⟨_,SqL.of h10y⟩,?_⟩
  refine for_list (K:=K) (a:=yr) (xs:=acc) (llD H m eA sA l b es st H7 lp yr dp k' acc rs)
   ⟨v9,rfl,h10y,h10d,R10,e10⟩ (fun i σ H11 _ h=>?_) ?_ ?_
  ·obtain ⟨_,_,h11,_⟩:=h
   exact SqL.of h11
  ·rintro i x σ H11 hx ⟨v9,rfl,h11y,h11d,R11,e11⟩
   have hil:=(List.getElem?_eq_some_iff.mp hx).1
   have hri:rs[i]? = some (rs[i]'(by omega)):=List.getElem?_eq_getElem (by omega)
   generalize rs[i]'(by omega)=r at hri
   obtain ⟨ra,rfl,hra⟩:=R11.2 i x r hx hri
   have hml:=mets_len (rs.take i)
   rw [List.length_take] at hml
   have hnl:=nbG_len (φ:=fun r:List Nat=>r.map kI) 0 (mets (rs.take i))
   refine ⟨_,rfl,dp,rfl,.inr ⟨_,.inl h11d⟩,_,rfl,_,rfl,dp,_,rfl,.inl h11d,_,r.map kI,ra,h11d,rfl,by rw [kmap]; exact hra,small1000 (by omega),fun v hv=>?_,fun hv=>?_⟩
   ·refine ⟨_,rfl,h11y,?_,R11,e11⟩
    rw [mets_snoc hri]
    unfold addR
    by_cases c:r∈mets (rs.take i)
    ·rw [if_pos c]; exact h11d
    ·rw [nbG_no (φ:=fun r:List Nat=>r.map kI) kI_map_inj 0 _ c] at hv
     cases hv
   ·have c:r∉mets (rs.take i):=fun c=>by
     rw [nbG_yes (φ:=fun r:List Nat=>r.map kI) kI_map_inj 0 _ c] at hv
     cases hv
    refine ⟨_,rfl,(upd_ne nyd).trans h11y,?_,R11.keep (Tk.dct h11d _),same_put e11 hdp7 _⟩
    rw [mets_snoc hri]
    unfold addR
    rw [if_neg c,nbG_snoc,putK_new _ hv,upd_same,hnl,Nat.zero_add]
    rfl
  ·rintro σ H11 ⟨v9,rfl,h11y,h11d,R11,e11⟩
   rw [hal,← hRl,List.take_length] at h11d
   refine ⟨_,rfl,yr,rfl,⟨_,SqL.of h11y⟩,?_⟩
   refine comp_list (K:=K) (a:=yr) (xs:=acc) (fun j ac H12=>ac=(rs.take j).map (fun r=>nI ((mets rs).idxOf r))∧Same H11 H12) (by rw [hal]; exact small1000 (by omega)) ⟨rfl,Same.refl _⟩ (fun j ac H12 q=>by rw [q.1,List.length_map,List.length_take]; exact Nat.min_le_left _ _)
    (fun j ac H12 q=>SqL.of (q.2 _ _ h11y)) (fun j ac H12 x hxj q=>?_) (fun ac H12 q y hy=>?_)
   ·obtain ⟨rfl,e12⟩:=q
    have hil:=(List.getElem?_eq_some_iff.mp hxj).1
    have hri:rs[j]? = some (rs[j]'(by omega)):=List.getElem?_eq_getElem (by omega)
    generalize rs[j]'(by omega)=r at hri
    obtain ⟨ra,rfl,hra⟩:=R11.2 j x r hxj hri
    have hv:=nbG_yes (φ:=fun r:List Nat=>r.map kI) kI_map_inj 0 _ (mets_mem (List.mem_of_getElem? hri))
    rw [Nat.zero_add] at hv
    refine cyes ⟨_,rfl,_,rfl,dp,_,rfl,hv▸DGet.t (k:=r.map kI) (e12 _ _ h11d) (by rw [kmap]; exact e12 _ _ hra),?_,e12⟩
    rw [map_take hri]
   ·obtain ⟨rfl,e12⟩:=q
    have htl:rs.take acc.length=rs:=by rw [hal,← hRl,List.take_length]
    rw [htl]
    refine ⟨st.length+1 - dn (lwN st es k'),by omega,k'+1,dn (lwN st es k'),y,_,_,_,rfl,rfl,?_,((e7.trans e11).trans e12).trans (same_new hy _),.inr ⟨k',rfl,rfl⟩⟩
    rw [upd_same]
    show _=some (HO.lst ((lwS st (lwN st es k')).map nI))
    unfold lwS
    rw [hrs,List.map_map]
    rfl
 ·have c2:¬ ((cnt:Nat):Int) < ((dn (lwN st es k'):Nat):Int):=fun z=>c1 (decide_eq_true z)
  rcases hcnt with ⟨rfl,rfl⟩ | ⟨j,rfl,rfl⟩
  ·omega
  have hS:∀ x y,x < st.length→y < st.length→((lwN st es (j+1)).getD x 0=(lwN st es (j+1)).getD y 0↔Fut st es l.length x y):=fun x y hx hy=>lw_end hrect (by omega) hx hy
  have hSlt:∀ x,x < st.length→(lwN st es (j+1)).getD x 0 < st.length:=fun x hx=>lwS_lt hx
  have hSl:=lkl (j+1)
  generalize upd H5 q (.set (fun k=>(metI ((lwN st es (j+1)).map fun n:Nat=>(n:Int))).any (· == k)) (metI ((lwN st es (j+1)).map fun n:Nat=>(n:Int))).length)=H6 at s6 h6l e6
  generalize lwN st es (j+1)=S at h6l hS hSlt hSl
  clear c1 c2 hns hset
  have atS:∀ x,x < st.length→atI (S.map nI) ((x:Nat):Int)=some (nI (S.getD x 0)):=fun x hx=>atI_nat (by rw [List.getElem?_map,(getD_mem (l:=S) (d:=0) (by rw [hSl]; exact hx)).2]; rfl)
  have W:=wk_law hrect hS
  have oLs:∀ i,(lwO S st b i).length≤st.length:=fun i=>ordK_len (P:=fun x=>x < st.length) hbeg (fun x hx y hy=>(hrect _ (getD_mem (l:=st) (d:=[]) hx).1).2 y hy) (fun x hx=>hSlt x hx) i
  have oL:∀ i,(lwO S st b i).length≤216:=fun i=>Nat.le_trans (oLs i) hst
  have oP:∀ i,∀ y∈lwO S st b i,y < st.length:=fun i=>W.all hbeg i
  refine ⟨_,rfl,(by show 1≤sizeLine; decide),fun op hop=>?_⟩
  have w1:=same_new hop (.lst [nI b])
  have h7o:upd H6 op (.lst [nI b]) op=some (.lst [nI b]):=upd_same
  generalize upd H6 op (.lst [nI b])=H7 at w1 h7o
  have hop6:=hop
  refine fun dp hdp=>?_
  have w2:=same_new hdp (.dK [])
  have h8l:=w2 _ _ (w1 _ _ h6l)
  refine ⟨_,rfl,_,rfl,lp,_,_,_,rfl,rfl,SqL.of h8l,atS b hbeg,upd_same,[(kI (S.getD b 0),V.int 0)],rfl,by show 1≤15; decide,?_⟩
  have h9d:upd (upd H7 dp (.dK [])) dp (.dK (mergeK [] [(kI (S.getD b 0),V.int 0)])) dp=some (.dK [(kI (S.getD b 0),V.int 0)]):=upd_same
  have e9:Same H7 (upd (upd H7 dp (.dK [])) dp (.dK (mergeK [] [(kI (S.getD b 0),V.int 0)]))):=same_put w2 hdp _
  generalize upd (upd H7 dp (.dK [])) dp (.dK (mergeK [] [(kI (S.getD b 0),V.int 0)]))=H9 at h9d e9
  have nod:op≠dp:=ne_of_none h7o hdp
  have hdp6:=none_of w1 hdp
  refine ⟨llO H m eA sA l b es st S H6 lp op dp j v7 v8 v9,
   ⟨_,0,none,rfl,Nat.zero_le _,rfl,e9 _ _ h7o,h9d,w1.trans e9⟩,?_⟩
  clear h8l h9d e9 w2 hdp h7o w1 hop
  rintro mm σ H10 ⟨i,v13,rfl,hi,rfl,h10o,h10d,e10⟩
  have hLl:=oL i
  have hsucc:∀ x,(lwO S st b i)[i]? = some x→lwO S st b (i+1)=(st.getD x []).foldl (addK fun x=>S.getD x 0) (lwO S st b i):=fun x hx=>ordK_succ hx
  have hpi:=oP i
  have h10l:=e10 _ _ h6l
  refine ⟨_,rfl,_,rfl,op,_,rfl,.inl (SqL.of h10o),_,_,rfl,rfl,_,rfl,?_⟩
  refine ite2 (fun c1=>?_) (fun c1=>?_)
  ·have c2:((i:Nat):Int) < ((((lwO S st b i).map nI).length:Nat):Int):=of_decide_eq_true c1
   rw [List.length_map] at c2
   have hlt:i < (lwO S st b i).length:=by omega
   have hxi:(lwO S st b i)[i]? = some ((lwO S st b i)[i]'hlt):=List.getElem?_eq_getElem hlt
   generalize (lwO S st b i)[i]'hlt=x at hxi
   have hx:=hpi x (List.mem_of_getElem? hxi)
   obtain ⟨a,ha1,ha2⟩:=rowA x hx
   have hrw:=hrect _ (getD_mem (l:=st) (i:=x) (d:=[]) hx).1
   have hs1:=hsucc x hxi
   have hnd:=ordK_nd (k:=fun x=>S.getD x 0) (T:=fun x=>st.getD x []) (b:=b) i
   have hnd:((lwO S st b i).map fun x=>S.getD x 0).Nodup:=hnd
   have hL1:=oL (i+1)
   have hle1:i+1≤(lwO S st b (i+1)).length:=by
    have:=(fold_pre (k:=fun x=>S.getD x 0) (st.getD x []) (lwO S st b i)).length_le
    rw [hs1]
    omega
   generalize lwO S st b i=O at h10o h10d hLl hxi hs1 hnd hpi hlt
   refine ⟨fun σ' H'=>∃ m',m' < 217 - i∧_,fun _ _ z=>z,?_⟩
   refine ⟨_,rfl,_,rfl,_,rfl,op,_,_,_,rfl,rfl,SqL.of h10o,atI_nat (by rw [List.getElem?_map,hxi]; rfl),sA,_,_,_,rfl,rfl,SqT.of ((e6.trans e10) _ _ h3),ha1,a,rfl,⟨_,SqT.of ((e6.trans e10) _ _ ha2)⟩,?_⟩
   refine for_tup (K:=K) (a:=a) (xs:=(st.getD x []).map nI) (fun j' σ H11=>∃ (v13:Option V),σ=[some (.ref m),some (.str l),some (nI b),some (.ref eA),some (.ref sA),some (.ref lp),some (nI (dn (lwN st es j))),v7,v8,v9,some (.ref op),some (.ref dp),some (nI i),v13,none]∧H11 op=some (.lst ((((st.getD x []).take j').foldl (addK fun x=>S.getD x 0) O).map nI))∧H11 dp=some (.dK (nbG kI 0 ((((st.getD x []).take j').foldl (addK fun x=>S.getD x 0) O).map fun x=>S.getD x 0)))∧Same H6 H11)
    ⟨v13,rfl,h10o,h10d,e10⟩ (fun j' σ H11 _ h=>?_) ?_ ?_
   ·obtain ⟨_,_,_,_,e11⟩:=h
    exact SqT.of ((e6.trans e11) _ _ ha2)
   ·rintro j' x' σ H11 hx' ⟨v13,rfl,h11o,h11d,e11⟩
    rw [List.getElem?_map] at hx'
    cases hc:(st.getD x [])[j']? with
    | none=>rw [hc] at hx'; cases hx'
    | some t=>
     rw [hc] at hx'
     cases hx'
     have htl:=hrw.2 t (List.mem_of_getElem? hc)
     have htk:((st.getD x []).take (j'+1)).foldl (addK fun x=>S.getD x 0) O=addK (fun x=>S.getD x 0) (((st.getD x []).take j').foldl (addK fun x=>S.getD x 0) O) t:=by
      rw [List.take_add_one,hc,List.foldl_append]
      rfl
     have hnd8:=fold_nd (k:=fun x=>S.getD x 0) ((st.getD x []).take j') O hnd
     have hal8:=fold_all (k:=fun x=>S.getD x 0) (P:=fun y=>y < st.length) ((st.getD x []).take j') O hpi fun z hz=>hrw.2 z (List.mem_of_mem_take hz)
     rw [htk]
     generalize ((st.getD x []).take j').foldl (addK fun x=>S.getD x 0) O=O8 at h11o h11d hnd8 hal8
     have hO8:O8.length≤216:=by
      have:=nodup_lt st.length _ hnd8 fun z hz=>by
       obtain ⟨y,hy,rfl⟩:=List.mem_map.mp hz
       exact hSlt y (hal8 y hy)
      rw [List.length_map] at this
      omega
     have h11l:=e11 _ _ h6l
     have hln:(nbG kI 0 (O8.map fun x=>S.getD x 0)).length=O8.length:=by rw [nbG_len,List.length_map]
     refine ⟨_,rfl,_,rfl,lp,_,_,_,rfl,rfl,SqL.of h11l,atS t htl,_,rfl,dp,_,rfl,DGet.k (k:=kI (S.getD t 0)) h11d,_,rfl,?_⟩
     unfold addK
     by_cases hin:S.getD t 0∈O8.map fun x=>S.getD x 0
     ·rw [nbG_yes (fun x y h=>kI_inj h) 0 _ hin,if_pos hin]
      exact ifN rfl ⟨_,rfl,h11o,h11d,e11⟩
     ·have hno:=nbG_no (fun x y h=>kI_inj h) 0 _ hin
      rw [hno,if_neg hin]
      refine ifY rfl ⟨_,rfl,dp,_,rfl,.inl h11d,_,rfl,_,rfl,_,rfl,lp,_,_,_,rfl,rfl,SqL.of h11l,atS t htl,dp,_,rfl,DPut.k (k:=kI (S.getD t 0)) h11d (by rw [hln,sizeLine_eq]; omega),?_⟩
      have h12o:=(upd_ne (H:=H11) (o:=.dK (putK (nbG kI 0 (O8.map fun x=>S.getD x 0)) (kI (S.getD t 0)) (V.int (((nbG kI 0 (O8.map fun x=>S.getD x 0)).length:Nat):Int)))) nod).trans h11o
      have h12d:upd H11 dp (.dK (putK (nbG kI 0 (O8.map fun x=>S.getD x 0)) (kI (S.getD t 0)) (V.int (((nbG kI 0 (O8.map fun x=>S.getD x 0)).length:Nat):Int)))) dp=some (.dK (nbG kI 0 ((O8 ++ [t]).map fun x=>S.getD x 0))):=by
       rw [upd_same,putK_new _ hno,List.map_append,List.map_cons,List.map_nil,nbG_snoc,hln,List.length_map,Nat.zero_add]
       rfl
      have e12:=same_put e11 hdp6 (.dK (putK (nbG kI 0 (O8.map fun x=>S.getD x 0)) (kI (S.getD t 0)) (V.int (((nbG kI 0 (O8.map fun x=>S.getD x 0)).length:Nat):Int))))
      generalize upd H11 dp (.dK (putK (nbG kI 0 (O8.map fun x=>S.getD x 0)) (kI (S.getD t 0)) (V.int (((nbG kI 0 (O8.map fun x=>S.getD x 0)).length:Nat):Int))))=H12 at h12o h12d e12
      refine ⟨_,rfl,.inl ⟨rfl,_,SqL.of h12o⟩,_,rfl,op,_,_,rfl,rfl,h12o,(by rw [List.length_map,sizeLine_eq]; omega),?_⟩
      refine ⟨_,rfl,?_,(upd_ne nod.symm).trans h12d,same_put e12 hop6 _⟩
      rw [upd_same,List.map_append]
      rfl
   ·rintro σ H11 ⟨v13,rfl,h11o,h11d,e11⟩
    rw [List.length_map,List.take_length,← hs1] at h11o h11d
    exact ⟨_,rfl,_,_,rfl,rfl,217 - (i+1),by omega,i+1,_,rfl,hle1,rfl,h11o,h11d,e11⟩
  ·have c2:¬ ((i:Nat):Int) < ((((lwO S st b i).map nI).length:Nat):Int):=fun z=>c1 (decide_eq_true z)
   rw [List.length_map] at c2
   have hN:(lwO S st b i).length≤i:=by omega
   have hmet:∀ x∈lwO S st b i,∀ t∈st.getD x [],S.getD t 0∈(lwO S st b i).map fun x=>S.getD x 0:=fun x hx t ht=>by
    obtain ⟨j',hj',ej⟩:=List.getElem_of_mem hx
    exact ordK_met (k:=fun x=>S.getD x 0) (T:=fun x=>st.getD x []) (b:=b) (n:=i) (j:=j') (x:=x) (by rw [← ej]; exact List.getElem?_eq_getElem hj') (by omega) ht
   replace k:=fun m' H' e=>k m' S i H' e hS hN (oLs i)
   clear hsucc
   generalize lwO S st b i=O at h10o h10d hLl hmet hpi k
   refine ⟨_,rfl,op,rfl,⟨_,SqL.of h10o⟩,?_⟩
   refine comp_list (K:=K) (a:=op) (xs:=O.map nI) (fun r' acc H11=>RowsN H11 acc ((rowsK (fun x=>S.getD x 0) (fun x=>st.getD x []) O).take r')∧Same H10 H11) (by rw [List.length_map]; exact small1000 (by omega)) ⟨⟨rfl,fun i x r a=>by simp at a⟩,Same.refl _⟩
    (fun i acc H8 p=>by rw [p.1.1,List.length_take]; exact Nat.min_le_left _ _) (fun r' acc H11 q=>SqL.of (q.2 _ _ h10o)) (fun r' acc H11 x' hx' q=>?_) (fun acc H11 q y hy=>?_)
   ·obtain ⟨R11,e11⟩:=q
    rw [List.getElem?_map] at hx'
    cases hc:O[r']? with
    | none=>rw [hc] at hx'; cases hx'
    | some x=>
     rw [hc] at hx'
     cases hx'
     have hxm:=List.mem_of_getElem? hc
     have hx:=hpi x hxm
     obtain ⟨a,ha1,ha2⟩:=rowA x hx
     have hrw:=hrect _ (getD_mem (l:=st) (i:=x) (d:=[]) hx).1
     have e011:=(e6.trans e10).trans e11
     refine cyes ⟨_,rfl,_,rfl,sA,_,_,_,rfl,rfl,SqT.of (e011 _ _ h3),ha1,a,rfl,⟨_,SqT.of (e011 _ _ ha2)⟩,?_⟩
     refine comp_tup (K:=K) (a:=a) (xs:=(st.getD x []).map nI) (fun j' acc H12=>acc=((st.getD x []).take j').map (fun t=>nI ((O.map fun x=>S.getD x 0).idxOf (S.getD t 0)))∧Same H11 H12) (by rw [List.length_map]; exact small1000 (by omega)) ⟨rfl,Same.refl _⟩ (fun j' acc H12 q=>by rw [q.1,List.length_map,List.length_take]; exact Nat.min_le_left _ _)
      (fun j' acc H12 q=>SqT.of (q.2 _ _ (e011 _ _ ha2))) (fun j' acc H12 x' hxj q=>?_) (fun acc H12 q y hy=>?_)
     ·obtain ⟨rfl,e12⟩:=q
      rw [List.getElem?_map] at hxj
      cases hc2:(st.getD x [])[j']? with
      | none=>rw [hc2] at hxj; cases hxj
      | some t=>
       rw [hc2] at hxj
       cases hxj
       have htm:=List.mem_of_getElem? hc2
       have hv:=nbG_yes (φ:=kI) (fun x y h=>kI_inj h) 0 _ (hmet x hxm t htm)
       rw [Nat.zero_add] at hv
       refine cyes ⟨_,rfl,_,rfl,_,rfl,lp,_,_,_,rfl,rfl,SqL.of (e12 _ _ (e11 _ _ h10l)),atS t (hrw.2 t htm),dp,_,rfl,hv▸DGet.k (k:=kI (S.getD t 0)) (e12 _ _ (e11 _ _ h10d)),?_,e12⟩
       rw [map_take hc2]
     obtain ⟨rfl,e12⟩:=q
     rw [List.length_map,List.take_length]
     have u2:=same_new hy (.lst ((st.getD x []).map fun t=>nI ((O.map fun x=>S.getD x 0).idxOf (S.getD t 0))))
     refine ⟨y,_,rfl,.inl ⟨SqL.of upd_same,fun z hz=>?_⟩⟩
     have u3:=same_new hz (.tup ((st.getD x []).map fun t=>nI ((O.map fun x=>S.getD x 0).idxOf (S.getD t 0))))
     have u13:=(e12.trans u2).trans u3
     refine ⟨?_,e11.trans u13⟩
     have hrow:(rowsK (fun x=>S.getD x 0) (fun x=>st.getD x []) O)[r']? = some ((st.getD x []).map fun t=>(O.map fun x=>S.getD x 0).idxOf (S.getD t 0)):=by
      unfold rowsK
      rw [List.getElem?_map,hc]
      rfl
     rw [List.take_add_one,hrow]
     refine (R11.keep (Tk.same u13)).snoc ?_
     refine upd_same.trans ?_
     rw [List.map_map]
     rfl
   obtain ⟨R11,e11⟩:=q
   have hRl:(rowsK (fun x=>S.getD x 0) (fun x=>st.getD x []) O).length=(O.map nI).length:=by unfold rowsK; rw [List.length_map,List.length_map]
   rw [← hRl,List.take_length] at R11
   obtain ⟨rr,rfl,r1,r2⟩:=R11.ras
   have w1:=same_new hy (.lst (rr.map V.ref))
   refine ⟨y,_,rfl,.inl ⟨SqL.of upd_same,fun fp hfp=>?_⟩⟩
   have w2:=same_new hfp (.tup (rr.map V.ref))
   have h13f:upd (upd H11 y (.lst (rr.map V.ref))) fp (.tup (rr.map V.ref)) fp=some (.tup (rr.map V.ref)):=upd_same
   have w12:=w1.trans w2
   generalize upd (upd H11 y (.lst (rr.map V.ref))) fp (.tup (rr.map V.ref))=H13 at w2 h13f w12
   have e13:=(e10.trans e11).trans w12
   have e1013:=e11.trans w12
   refine ⟨_,rfl,_,rfl,op,_,rfl,.inl ⟨SqL.of (e1013 _ _ h10o),?_⟩⟩
   refine comp_enum (Sq:=fun H xs=>SqL K H op xs) (xs:=O.map nI) (fun i acc H14=>acc=(((List.range i).filter fun j=>decide (O.getD j 0∈es)).map nI)∧Same H13 H14) (by rw [List.length_map]; exact small1000 (by omega)) ⟨rfl,Same.refl _⟩
    (fun i acc H6 q=>by rw [q.1,List.length_map]; exact Nat.le_trans (List.length_filter_le _ _) (by rw [List.length_range]; exact Nat.le_refl _)) (fun i acc H14 q=>SqL.of (q.2 _ _ (e1013 _ _ h10o))) (fun i acc H14 x' p hx' q hp=>?_) (fun acc H14 q y hy=>?_)
   ·obtain ⟨rfl,e14⟩:=q
    rw [List.getElem?_map] at hx'
    cases hc:O[i]? with
    | none=>rw [hc] at hx'; cases hx'
    | some x=>
     rw [hc] at hx'
     cases hx'
     have hxD:O.getD i 0=x:=by rw [List.getD_eq_getElem?_getD,hc]; rfl
     have u1:=same_new hp (.tup [V.int (i:Int),nI x])
     have e15:=e14.trans u1
     refine ⟨p,_,rfl,SqT.of upd_same,rfl,_,_,rfl,_,_,rfl,rfl,?_⟩
     refine ⟨_,rfl,_,rfl,eA,_,rfl,.inr (SqT.of (((e6.trans e13).trans e15) _ _ h2)),rfl,flat_nI es,_,rfl,?_⟩
     have hfl:((List.range (i+1)).filter fun j=>decide (O.getD j 0∈es))=((List.range i).filter fun j=>decide (O.getD j 0∈es)) ++ if decide (x∈es)=true then [i] else []:=by
      rw [List.range_succ,List.filter_append,List.filter_cons,hxD]
      rfl
     have hin:inV (nI x) (es.map nI)=decide (x∈es):=inV_nI x es
     rw [hfl,List.map_append,hin]
     refine ite2 (fun c=>?_) (fun c=>?_)
     ·have c':decide (x∈es)=true:=c
      rw [if_pos c']
      exact ⟨_,rfl,rfl,e15⟩
     ·have c':¬ decide (x∈es)=true:=c
      rw [if_neg c']
      exact ⟨by rw [List.map_nil,List.append_nil],e15⟩
   obtain ⟨rfl,e14⟩:=q
   rw [List.length_map]
   have x1:=same_new hy (.lst (((List.range O.length).filter fun j=>decide (O.getD j 0∈es)).map nI))
   refine ⟨y,_,rfl,.inl ⟨SqL.of upd_same,fun ep hep=>?_⟩⟩
   have x2:=same_new hep (.tup (((List.range O.length).filter fun j=>decide (O.getD j 0∈es)).map nI))
   have h15e:upd (upd H14 y (.lst (((List.range O.length).filter fun j=>decide (O.getD j 0∈es)).map nI))) ep (.tup (((List.range O.length).filter fun j=>decide (O.getD j 0∈es)).map nI)) ep=some (.tup ((endsK O fun x=>decide (x∈es)).map nI)):=upd_same
   have x12:=x1.trans x2
   generalize upd (upd H14 y (.lst (((List.range O.length).filter fun j=>decide (O.getD j 0∈es)).map nI))) ep (.tup (((List.range O.length).filter fun j=>decide (O.getD j 0∈es)).map nI))=H15 at x2 h15e x12
   refine ⟨_,rfl,(by show 4≤sizeLine; decide),fun m' hm'=>?_⟩
   have x3:=same_new hm' (.tup [V.str l,V.int 0,.ref ep,.ref fp])
   have x03:=(e14.trans x12).trans x3
   exact k m' _ ((e6.trans e13).trans x03) ⟨ep,fp,rr,upd_same,x3 _ _ h15e,x03 _ _ h13f,r1,fun i a r q1 q2=>x03 _ _ (w12 _ _ (r2 i a r q1 q2))⟩
theorem ok_law_rising_machine {f:Addr} {fd:FuncData} (F:Fun K "_law_rising_machine" "_law_rising_machine" s_law_rising_machine f fd) (Z:Blt mg) (C_law_pick:Cal P w K mg base "_law_pick" 1 ["_law_flow_here","_law_many"] spPick):FnOk P w K mg base CX0 2 f fd ["_law_flow_here","_law_letters_here","_law_most"] spMachine:=by
 refine F.ok sc_law_rising_machine (fun vs H Q E h=>?_) (fun cdv A outer s H vs Q E hr h=>?_)
 ·obtain ⟨p,sc,l,most,rfl,_⟩:=h
  rfl
 obtain ⟨p,sc,l,most,rfl,hl0,hl1,hm0,hm1,FA,k⟩:=h
 have hln:=len_list l
 refine ⟨_,(pss_cons (ps_set (i:=3) sc_law_rising_machine.nd (by rfl) (Or.inl (by rfl)) (pe_op op_add pe_int (pe_c C_law_pick (hr.mono (by decide)) (pa_cons (pv 0) (pa_cons (pv 2) pa_nil))))) 
   (pss_cons (ps_set (i:=4) sc_law_rising_machine.nd (by rfl) (Or.inl (by rfl)) (pe_callTy (call_tupK (K:=K)) (by rfl) Z.tuple bt_tuple (pa_cons (pe_comp (sc:=defScope s_law_rising_machine) (Nm:=["_law_flow_here","_law_letters_here","_law_most","_law_rooms","_law_ends","_law_steps","_law_room","_law_row","_law_letter","_law_stays"]) (own:=["_law_room"]) (fr:=[0]) ⟨rfl,by decide +kernel,by decide +kernel,by decide +kernel,by decide +kernel⟩ (by rfl) (gfr_name (by decide)) (pi_range1 (by rfl) Z.range (pa_cons (pv 3) pa_nil)) (fun d=>(pg_name (i:=0) nd_law_rising_machine_0 (by rfl) (Or.inl (by rfl)))) (fun d=>(pts_one (pt_cmpR op_eq (pe_c C_law_pick (hr.mono (by decide)) (pa_cons (pv 1) (pa_cons pe_int pa_nil))) pe_int (nomark _)))) (fun d=>(pv 0))) pa_nil))) 
   (pss_cons (ps_set (i:=5) sc_law_rising_machine.nd (by rfl) (Or.inl (by rfl)) (pe_lst pa_nil)) 
   (pss_cons (ps_for PassesOwn.never (by rfl) (pi_range1 (by rfl) Z.range (pa_cons (pv 3) pa_nil)) (pg_name (i:=6) sc_law_rising_machine.nd (by rfl) (Or.inl (by rfl))) 
    (pss_cons (ps_set (i:=7) sc_law_rising_machine.nd (by rfl) (Or.inl (by rfl)) (pe_lst pa_nil)) 
    (pss_cons (ps_for PassesOwn.never (by rfl) (pi_str (pv 1)) (pg_name (i:=8) sc_law_rising_machine.nd (by rfl) (Or.inl (by rfl))) 
     (pss_cons (ps_set (i:=9) sc_law_rising_machine.nd (by rfl) (Or.inl (by rfl)) (pe_cmpR op_eq (pe_c C_law_pick (hr.mono (by decide)) (pa_cons (pv 0) (pa_cons pe_int pa_nil))) pe_int (nomark _))) 
     (pss_one (ps_expr (pe_bmK (K:=K) PySem.F.plainAttrs_list PySem.F.slot_list_append PySem.F.type_list_append mt_append (pv 7) (pa_cons (pe_ix (ix_listK (K:=K)) (pe_lst (pa_cons (pe_op op_add (pv 6) (pe_c C_law_pick (hr.mono (by decide)) (pa_cons (pv 0) (pa_cons (pe_op op_sub (pv 3) (pv 6)) pa_nil)))) (pa_cons (pv 6) pa_nil))) (pe_callTy call_int1 (by rfl) Z.int bt_int (pa_cons (pv 9) pa_nil)) (fun _ _=>rfl)) pa_nil)))))) 
    (pss_one (ps_expr (pe_bmK (K:=K) PySem.F.plainAttrs_list PySem.F.slot_list_append PySem.F.type_list_append mt_append (pv 5) (pa_cons (pe_callTy (call_tupK (K:=K)) (by rfl) Z.tuple bt_tuple (pa_cons (pv 7) pa_nil)) pa_nil))))))) 
   (pss_one (ps_ret (pe_tup (pa_cons (pv 1) (pa_cons pe_int (pa_cons (pv 4) (pa_cons (pe_callTy (call_tupK (K:=K)) (by rfl) Z.tuple bt_tuple (pa_cons (pv 5) pa_nil)) pa_nil))))))))))),?_⟩
 refine (let zz0:TS:=_; let zz1:TS:=_; let zz2:TS:=_; let zz3:TS:=tSeq _ zz2; let zz4:TS:=tSeq (tFor _ _ zz3) zz1; let zz5:TS:=tSeq _ zz4; let zz6:TS:=tSeq (tFor _ _ zz5) zz0; let zz7:TS:=tSeq _ zz6; let zz8:TS:=tSeq _ zz7; (?_:tSeq _ zz8 _ _ _))
 refine ⟨_,rfl,_,rfl,p,sc,most,rfl,hm0,by omega,FA,fun r xs0 hr0 hr1 hx0=>⟨_,_,rfl,rfl,?_⟩⟩
 have FA0:=FA.go hx0
 have d0:Drew H (upd H p (.lst xs0)) p:=Drew.upd _
 refine ⟨_,rfl,_,rfl,by omega,by omega,?_⟩
 refine comp_range (lo:=0) (k:=(1+r).toNat) (fun i acc H2=>∃ es:List Nat,acc=es.map nI∧es.length≤i∧(∀ x∈es,x < i)∧FlowAt H2 p sc∧Drew H H2 p) (Nat.lt_of_le_of_lt (show (1+r).toNat≤6 by omega) (by decide)) ⟨[],rfl,Nat.le_refl _,fun x z=>absurd z (by simp),FA0,d0⟩
  (fun i acc H2 ⟨es,e,hl',_⟩=>by rw [e,List.length_map]; exact hl') (fun i acc H2 hi hp=>?_) (fun acc H2 hp q hq=>?_)
 ·obtain ⟨es,rfl,hel,hem,FA2,dr⟩:=hp
  refine ⟨_,rfl,p,sc,2,rfl,by decide,by decide,FA2,fun r2 xs1 _ _ hx1=>⟨rfl,_,rfl,?_⟩⟩
  refine ite2 (fun _=>⟨_,rfl,es ++ [i],?_,?_,fun x hx=>?_,FA2.go hx1,drew_go dr _⟩) (fun _=>⟨es,rfl,by omega,fun x hx=>Nat.lt_succ_of_lt (hem x hx),FA2.go hx1,drew_go dr _⟩)
  ·rw [e_nI,map_snoc]
  ·rw [List.length_append,List.length_singleton]
   omega
  ·rcases List.mem_append.mp hx with z | z
   ·exact Nat.lt_succ_of_lt (hem x z)
   ·rw [List.mem_singleton.mp z]; exact Nat.lt_succ_self _
 obtain ⟨es,rfl,hel,hem,FA2,dr2⟩:=hp
 refine ⟨q,_,rfl,.inl ⟨SqL.of upd_same,fun e he=>?_⟩⟩
 have s1:=same_new hq (.lst (es.map nI))
 have s2:=same_new he (.tup (es.map nI))
 have FA3:=(FA2.same s1).same s2
 have d3:=(dr2.trans (Drew.same s1)).trans (Drew.same (p:=p) s2)
 generalize hG:upd (upd H2 q (.lst (es.map nI))) e (.tup (es.map nI))=H3 at FA3 d3 ⊢
 have he3:H3 e=some (.tup (es.map nI)):=by rw [← hG]; exact upd_same
 refine ⟨(by show 0≤sizeLine; decide),fun s0 hs0=>?_⟩
 have s4:=same_new hs0 (.lst [])
 have nps:p≠s0:=by
  obtain ⟨ys,h1,_⟩:=FA3.here
  exact ne_of_none h1 hs0
 have nscs:sc≠s0:=by
  obtain ⟨ns,h1⟩:=FA3.cells
  exact ne_of_none h1 hs0
 have nes:e≠s0:=ne_of_none he3 hs0
 have nep:e≠p:=by
  obtain ⟨ys,h1,_⟩:=FA3.here
  exact ne_of he3 h1 (by intro z; cases z)
 have fresh:∀ b o,H b=some o→b≠p→b≠s0:=fun b o hb hne=>ne_of_none (d3 b o hb hne) hs0
 refine ⟨_,rfl,_,rfl,by omega,by omega,?_⟩
 refine for_range (lo:=0) (n:=(1+r).toNat) (fun i σ H4=>∃ (v v7 v8 v9:Option V) (ras:List Addr) (st:List (List Nat)),σ=[some (.ref p),some (.str l),some (.int most),some (.int (1+r)),some (.ref e),some (.ref s0),v,v7,v8,v9]∧H4 s0=some (.lst (ras.map V.ref))∧ras.length=i∧st.length=i∧
   (∀ (j:Nat) a r',ras[j]? = some a→st[j]? = some r'→H4 a=some (.tup (r'.map nI)))∧(∀ r'∈st,r'.length=l.length∧∀ x∈r',x < (1+r).toNat)∧H4 e=some (.tup (es.map nI))∧FlowAt H4 p sc∧Drew H H4 p)
  ⟨none,none,none,none,[],[],rfl,upd_same,rfl,rfl,fun j a r' z=>by simp at z,fun r' z=>absurd z (by simp),s4 _ _ he3,FA3.same s4,d3.trans (Drew.same s4)⟩ ?_ ?_
 ·rintro i σ H4 hi ⟨v,v7,v8,v9,ras,st,rfl,hs,hra,hst,hrow,hval,he4,FA4,d4⟩
  have hi':(i:Int) < 1+r:=by omega
  refine ⟨(by show 0≤sizeLine; decide),fun rp hrp=>?_⟩
  have t0:=same_new hrp (.lst [])
  have h5r:upd H4 rp (.lst []) rp=some (.lst []):=upd_same
  have nrs:s0≠rp:=ne_of_none hs hrp
  have npr:p≠rp:=by
   obtain ⟨ys,h1,_⟩:=FA4.here
   exact ne_of_none h1 hrp
  have nsr:sc≠rp:=by
   obtain ⟨ys,h1⟩:=FA4.cells
   exact ne_of_none h1 hrp
  have freshr:∀ b o,H b=some o→b≠p→b≠rp:=fun b o hb hne=>ne_of_none (d4 b o hb hne) hrp
  refine ⟨_,rfl,l,rfl,?_⟩
  refine for_str (cs:=l.cps.toList) (fun j σ H5=>∃ (v8 v9:Option V) (ys:List Nat),σ=[some (.ref p),some (.str l),some (.int most),some (.int (1+r)),some (.ref e),some (.ref s0),some (.int (0+(i:Int))),some (.ref rp),v8,v9]∧H5 rp=some (.lst (ys.map nI))∧ys.length=j∧(∀ x∈ys,x < (1+r).toNat)∧H5 s0=some (.lst (ras.map V.ref))∧Tk H4 H5∧FlowAt H5 p sc∧Drew H H5 p)
   ⟨v8,v9,[],rfl,h5r,rfl,fun x z=>absurd z (by simp),t0 _ _ hs,Tk.same t0,FA4.same t0,d4.trans (Drew.same t0)⟩ ?_ ?_
  ·rintro j c σ H5 hc ⟨v8,v9,ys,rfl,h5r,hyl,hyv,h5s,tk5,FA5,d5⟩
   refine ⟨_,rfl,p,sc,2,rfl,by decide,by decide,FA5,fun r1 xs1 _ _ hx1=>⟨rfl,?_⟩⟩
   have FA6:=FA5.go hx1
   have h6r:upd H5 p (.lst xs1) rp=some (.lst (ys.map nI)):=(upd_ne npr.symm).trans h5r
   have h6s:upd H5 p (.lst xs1) s0=some (.lst (ras.map V.ref)):=(upd_ne nps.symm).trans h5s
   have d6:=drew_go d5 (.lst xs1)
   have tk6:=tk5.trans (Tk.drew FA5 (Drew.upd (.lst xs1)))
   generalize upd H5 p (.lst xs1)=H6 at FA6 h6r h6s d6 tk6
   generalize decide (V.int r1=V.int 0)=stays
   refine ⟨_,rfl,.inl ⟨rfl,_,SqL.of h6r⟩,_,rfl,_,rfl,_,rfl,_,rfl,_,_,rfl,rfl,p,sc,_,rfl,by omega,by omega,FA6,fun r2 xs2 h20 h21 hx2=>⟨_,_,rfl,rfl,_,rfl,(by show 2≤sizeLine; decide),fun q hq=>?_⟩⟩
   have FA7:=FA6.go hx2
   have h7r:upd H6 p (.lst xs2) rp=some (.lst (ys.map nI)):=(upd_ne npr.symm).trans h6r
   have h7s:upd H6 p (.lst xs2) s0=some (.lst (ras.map V.ref)):=(upd_ne nps.symm).trans h6s
   have d7:=drew_go d6 (.lst xs2)
   have tk7:=tk6.trans (Tk.drew FA6 (Drew.upd (.lst xs2)))
   generalize upd H6 p (.lst xs2)=H7 at hq FA7 h7r h7s d7 tk7
   have t8:=same_new hq (.lst [V.int (0+(i:Int)+r2),V.int (0+(i:Int))])
   have h8q:upd H7 q (.lst [V.int (0+(i:Int)+r2),V.int (0+(i:Int))]) q=some (.lst [V.int (0+(i:Int)+r2),V.int (0+(i:Int))]):=upd_same
   generalize upd H7 q (.lst [V.int (0+(i:Int)+r2),V.int (0+(i:Int))])=H8 at t8 h8q
   have hval2:∃ y:Nat,y < (1+r).toNat∧atI [V.int (0+(i:Int)+r2),V.int (0+(i:Int))] (if stays=true then 1 else 0)=some (nI y):=by
    cases stays with
    | true=>
     refine ⟨i,by omega,?_⟩
     have:atI [V.int (0+(i:Int)+r2),V.int (0+(i:Int))] ((1:Nat):Int)=some (V.int (0+(i:Int))):=atI_nat rfl
     exact this.trans (congrArg some (e_nI i))
    | false=>
     refine ⟨i+r2.toNat,by omega,?_⟩
     have:atI [V.int (0+(i:Int)+r2),V.int (0+(i:Int))] ((0:Nat):Int)=some (V.int (0+(i:Int)+r2)):=atI_nat rfl
     have e:V.int (0+(i:Int)+r2)=nI (i+r2.toNat):=by
      show V.int _=V.int (((i+r2.toNat:Nat):Nat):Int)
      rw [show (((i+r2.toNat:Nat):Nat):Int)=0+(i:Int)+r2 by omega]
     exact this.trans (congrArg some e)
   obtain ⟨y,hy,hat⟩:=hval2
   refine ⟨_,rfl,.inr ⟨_,rfl,q,_,_,_,rfl,rfl,SqL.of h8q,hat,rp,_,_,rfl,rfl,t8 _ _ h7r,by rw [List.length_map,hyl]; exact small1000 (by have:=(List.getElem?_eq_some_iff.mp hc).1; omega),?_⟩⟩
   refine ⟨_,_,ys ++ [y],rfl,by rw [upd_same,map_snoc],by rw [List.length_append,hyl]; rfl,fun x hx=>?_,(upd_ne nrs).trans (t8 _ _ h7s),(tk7.trans (Tk.same t8)).trans (Tk.lst (t8 _ _ h7r) _),flow_store (FA7.same t8) npr nsr,fun b o hb hne=>?_⟩
   ·rcases List.mem_append.mp hx with z | z
    ·exact hyv x z
    ·rw [List.mem_singleton.mp z]; exact hy
   ·rw [upd_ne (freshr b o hb hne)]
    exact t8 _ _ (d7 b o hb hne)
  ·rintro σ H5 ⟨v8,v9,ys,rfl,h5r,hyl,hyv,h5s,tk5,FA5,d5⟩
   refine ⟨_,rfl,.inl ⟨rfl,_,SqL.of h5s⟩,_,rfl,rp,_,rfl,.inl ⟨SqL.of h5r,fun a ha=>?_⟩⟩
   have t2:=same_new ha (.tup (ys.map nI))
   have nas:a≠s0:=fun z=>by rw [z,h5s] at ha; cases ha
   refine ⟨s0,_,_,rfl,rfl,t2 _ _ h5s,?_,?_⟩
   ·rw [List.length_map]
    exact Nat.lt_of_le_of_lt (show ras.length≤6 by omega) (by decide)
   ·have keep:∀ b ys',H4 b=some (.tup ys')→upd (upd H5 a (.tup (ys.map nI))) s0 (.lst (ras.map V.ref ++ [.ref a])) b=some (.tup ys'):=fun b ys' hb=>by
     have nbs:b≠s0:=ne_of hb hs (by intro z; cases z)
     rw [upd_ne nbs]
     exact t2 _ _ (tk5 _ _ hb)
    refine ⟨_,_,_,_,ras ++ [a],st ++ [ys],rfl,?_,?_,?_,?_,?_,?_,?_,?_⟩
    ·rw [upd_same,← map_snoc]
    ·rw [List.length_append,hra]; rfl
    ·rw [List.length_append,hst]; rfl
    ·intro j a' r' z1 z2
     rcases Nat.lt_or_ge j i with hj | hj
     ·rw [List.getElem?_append_left (by omega)] at z1 z2
      exact keep _ _ (hrow j a' r' z1 z2)
     ·rw [List.getElem?_append_right (by omega)] at z1 z2
      have hj0:j=i:=by
       have:=(List.getElem?_eq_some_iff.mp z1).1
       rw [List.length_singleton] at this
       omega
      subst hj0
      rw [show j - ras.length=0 by omega] at z1
      rw [show j - st.length=0 by omega] at z2
      cases z1
      cases z2
      rw [upd_ne nas]
      exact upd_same
    ·intro r' hr'
     rcases List.mem_append.mp hr' with z | z
     ·exact hval r' z
     ·rw [List.mem_singleton.mp z]
      exact ⟨by omega,hyv⟩
    ·exact keep _ _ he4
    ·exact flow_store (FA5.same t2) nps nscs
    ·intro b o hb hne
     rw [upd_ne (fresh b o hb hne)]
     exact t2 _ _ (d5 b o hb hne)
 ·rintro σ H4 ⟨v,v7,v8,v9,ras,st,rfl,hs,hra,hst,hrow,hval,he4,FA4,d4⟩
  refine ⟨_,rfl,_,rfl,_,rfl,s0,_,rfl,.inl ⟨SqL.of hs,fun s5 hs5=>⟨(by show 4≤sizeLine; decide),fun m hm=>?_⟩⟩⟩
  have t1:=same_new hs5 (.tup (ras.map V.ref))
  have t2:=same_new hm (.tup [.str l,.int 0,.ref e,.ref s5])
  refine k m 0 es st _ ⟨⟨e,s5,ras,upd_same,?_,?_,by omega,fun j a' r' z1 z2=>?_⟩,⟨hl0,hl1,by omega⟩,by omega,fun r' hr'=>⟨(hval r' hr').1,fun x hx=>by have:=(hval r' hr').2 x hx; omega⟩⟩ ⟨by omega,fun x hx=>by have:=hem x hx; omega,by omega⟩ ?_ ((FA4.same t1).same t2)
  ·exact t2 _ _ (t1 _ _ he4)
  ·exact t2 _ _ upd_same
  ·exact t2 _ _ (t1 _ _ (hrow j a' r' z1 z2))
  ·exact d4.trans ((Drew.same t1).trans (Drew.same t2))
structure Fold (st:List (List Nat)) (es:List Nat) (b w:Nat) (ph:Nat→Nat) (st':List (List Nat)) (es':List Nat) (b':Nat):Prop where
 rect:Rect st' w
 beg:b' < st'.length∧ph b'=b
 end_:∀ r,r < st'.length→(r∈es'↔ph r∈es)
 elt:∀ e∈es',e < st'.length
 stp:∀ r j,r < st'.length→j < w→ph (stN st' r j)=stN st (ph r) j
theorem Fold.id_ {st:List (List Nat)} {es:List Nat} {b w:Nat} (R:Rect st w) (hb:b < st.length) (he:∀ e∈es,e < st.length):Fold st es b w id st es b:=⟨R,⟨hb,rfl⟩,fun _ _=>Iff.rfl,he,fun _ _ _ _=>rfl⟩
theorem Fold.lk {st:List (List Nat)} {es:List Nat} {b w:Nat} {ph:Nat→Nat} {st':List (List Nat)} {es':List Nat} {b':Nat} (F:Fold st es b w ph st' es' b'):Lk st es st' es' w b b':=by
 have key:∀ (cs:List Nat) (r:Nat),r < st'.length→(∀ c∈cs,c < w)→(wayN st' r cs∈es'↔wayN st (ph r) cs∈es):=by
  intro cs
  induction cs with
  | nil=>exact fun r hr _=>F.end_ r hr
  | cons c cs ih=>
   intro r hr hc
   have h1:=hc c List.mem_cons_self
   have h2:=ih (stN st' r c) (stN_lt F.rect hr h1) fun d hd=>hc d (List.mem_cons_of_mem _ hd)
   rw [F.stp r c hr h1] at h2
   exact h2
 intro cs hc
 have:=key cs b' F.beg.1 hc
 rw [F.beg.2] at this
 exact this.symm
theorem stN_set {st:List (List Nat)} {r c j x:Nat} {row:List Nat} (hr:st[r]? = some row) (hj:j < row.length):∀ r',stN (st.set r (row.set j x)) r' c=if r'=r∧c=j then x else stN st r' c:=by
 intro r'
 unfold stN
 have hlt:=(List.getElem?_eq_some_iff.mp hr).1
 by_cases e:r'=r
 ·subst e
  have e1:(st.set r' (row.set j x)).getD r' []=row.set j x:=by
   rw [List.getD_eq_getElem?_getD,List.getElem?_set_self hlt]
   rfl
  have e2:st.getD r' []=row:=by rw [List.getD_eq_getElem?_getD,hr]; rfl
  rw [e1,e2]
  by_cases d:c=j
  ·subst d
   rw [if_pos ⟨rfl,rfl⟩,List.getD_eq_getElem?_getD,List.getElem?_set_self hj]
   rfl
  ·rw [if_neg fun z=>d z.2,List.getD_eq_getElem?_getD,List.getElem?_set_ne (fun z=>d z.symm),List.getD_eq_getElem?_getD]
 ·rw [if_neg fun z=>e z.1]
  have e1:(st.set r (row.set j x)).getD r' []=st.getD r' []:=by
   rw [List.getD_eq_getElem?_getD,List.getElem?_set_ne (fun z=>e z.symm),List.getD_eq_getElem?_getD]
  rw [e1]
theorem Fold.set {st:List (List Nat)} {es:List Nat} {b w:Nat} {ph:Nat→Nat} {st':List (List Nat)} {es':List Nat} {b':Nat} (F:Fold st es b w ph st' es' b') {r j x:Nat} {row:List Nat} (hr:st'[r]? = some row) (hj:j < row.length) (hx:x < st'.length) (hp:ph x=ph (row.getD j 0)):Fold st es b w ph (st'.set r (row.set j x)) es' b':=by
 have hlen:(st'.set r (row.set j x)).length=st'.length:=List.length_set
 have hrow:stN st' r j=row.getD j 0:=by
  unfold stN
  rw [List.getD_eq_getElem?_getD (l:=st'),hr]
  rfl
 refine ⟨fun q hq=>?_,by rw [hlen]; exact F.beg,fun r' hr'=>F.end_ r' (by rw [hlen] at hr'; exact hr'),fun e he=>by rw [hlen]; exact F.elt e he,fun r' j' hr' hj'=>?_⟩
 ·rw [hlen]
  rcases List.mem_or_eq_of_mem_set hq with z | z
  ·exact F.rect q z
  ·obtain ⟨h1,h2⟩:=F.rect row (List.mem_of_getElem? hr)
   rw [z]
   refine ⟨by rw [List.length_set]; exact h1,fun y hy=>?_⟩
   rcases List.mem_or_eq_of_mem_set hy with a | a
   ·exact h2 y a
   ·rw [a]; exact hx
 ·rw [hlen] at hr'
  rw [stN_set hr hj r']
  by_cases c:r'=r∧j'=j
  ·rw [if_pos c,hp,c.1,c.2,← hrow]
   exact F.stp r j (by rw [← c.1]; exact hr') (by rw [← c.2]; exact hj')
  ·rw [if_neg c]
   exact F.stp r' j' hr' hj'
theorem Fold.more {st:List (List Nat)} {es:List Nat} {b w:Nat} {ph:Nat→Nat} {st':List (List Nat)} {es':List Nat} {b':Nat} (F:Fold st es b w ph st' es' b') {y:Nat} (hy:y < st'.length) :
  Fold st es b w (fun r=>if r=st'.length then ph y else ph r) (st' ++ [st'.getD y []]) (if y∈es' then es' ++ [st'.length] else es') b':=by
 have hlen:(st' ++ [st'.getD y []]).length=st'.length+1:=by rw [List.length_append]; rfl
 have hro:∀ r,r < st'.length→(st' ++ [st'.getD y []]).getD r []=st'.getD r []:=fun r hr=>by
  rw [List.getD_eq_getElem?_getD,List.getElem?_append_left hr,List.getD_eq_getElem?_getD]
 have hrn:(st' ++ [st'.getD y []]).getD st'.length []=st'.getD y []:=by
  rw [List.getD_eq_getElem?_getD,List.getElem?_append_right (Nat.le_refl _),Nat.sub_self]
  rfl
 have hold:∀ r,r < st'.length→(if r=st'.length then ph y else ph r)=ph r:=fun r hr=>if_neg (by omega)
 have hmem:∀ r,(r∈(if y∈es' then es' ++ [st'.length] else es'))↔(r∈es'∨(y∈es'∧r=st'.length)):=fun r=>by
  by_cases c:y∈es'
  ·rw [if_pos c,List.mem_append,List.mem_singleton]
   exact ⟨fun h=>h.imp id fun z=>⟨c,z⟩,fun h=>h.imp id fun z=>z.2⟩
  ·rw [if_neg c]
   exact ⟨.inl,fun h=>h.resolve_right fun z=>c z.1⟩
 refine ⟨fun q hq=>?_,⟨by rw [hlen]; exact Nat.lt_succ_of_lt F.beg.1,by rw [hold _ F.beg.1]; exact F.beg.2⟩,fun r hr=>?_,fun e he=>?_,fun r j hr hj=>?_⟩
 ·rw [hlen]
  have:∃ q'∈st',q=q':=by
   rcases List.mem_append.mp hq with z | z
   ·exact ⟨q,z,rfl⟩
   ·exact ⟨_,(getD_in (l:=st') (d:=[]) hy).1,List.mem_singleton.mp z⟩
  obtain ⟨q',hq',e⟩:=this
  obtain ⟨h1,h2⟩:=F.rect q' hq'
  rw [e]
  exact ⟨h1,fun x hx=>Nat.lt_succ_of_lt (h2 x hx)⟩
 ·rw [hmem]
  rw [hlen] at hr
  by_cases c:r=st'.length
  ·rw [if_pos c,← F.end_ y hy]
   exact ⟨fun h=>h.elim (fun z=>absurd (F.elt r z) (by omega)) fun z=>z.1,fun h=>.inr ⟨h,c⟩⟩
  ·rw [if_neg c,← F.end_ r (by omega)]
   exact ⟨fun h=>h.resolve_right fun z=>c z.2,.inl⟩
 ·rw [hlen]
  rcases (hmem e).mp he with z | z
  ·exact Nat.lt_succ_of_lt (F.elt e z)
  ·rw [z.2]; exact Nat.lt_succ_self _
 ·rw [hlen] at hr
  by_cases c:r=st'.length
  ·subst c
   have e:stN (st' ++ [st'.getD y []]) st'.length j=stN st' y j:=by unfold stN; rw [hrn]
   rw [e,if_pos rfl,hold _ (stN_lt F.rect hy hj)]
   exact F.stp y j hy hj
  ·have hr':r < st'.length:=by omega
   have e:stN (st' ++ [st'.getD y []]) r j=stN st' r j:=by unfold stN; rw [hro r hr']
   rw [e,hold r hr',hold _ (stN_lt F.rect hr' hj)]
   exact F.stp r j hr' hj
theorem Fold.begin {st:List (List Nat)} {es:List Nat} {b w:Nat} {ph:Nat→Nat} {st':List (List Nat)} {es':List Nat} {b':Nat} (F:Fold st es b w ph st' es' b') {x:Nat} (hx:x < st'.length) (hp:ph x=ph b'):Fold st es b w ph st' es' x:=
 ⟨F.rect,⟨hx,hp.trans F.beg.2⟩,F.end_,F.elt,F.stp⟩
theorem Fold.perm {st:List (List Nat)} {es:List Nat} {b w:Nat} {ph:Nat→Nat} {st':List (List Nat)} {es' es2:List Nat} {b':Nat} (F:Fold st es b w ph st' es' b') {o:List Nat} (ho:o.Perm (List.range st'.length)) (h2:∀ x,x∈es2↔x∈es'.map fun r=>o.idxOf r) :
  Fold st es b w (fun i=>ph (o.getD i 0)) (o.map fun x=>(st'.getD x []).map fun t=>o.idxOf t) es2 (o.idxOf b'):=by
 have hl:o.length=st'.length:=by rw [ho.length_eq,List.length_range]
 have hin:∀ x,x < st'.length→x∈o:=fun x hx=>ho.mem_iff.mpr (List.mem_range.mpr hx)
 have hout:∀ x,x∈o→x < st'.length:=fun x hx=>List.mem_range.mp (ho.mem_iff.mp hx)
 have hlen:(o.map fun x=>(st'.getD x []).map fun t=>o.idxOf t).length=st'.length:=by rw [List.length_map,hl]
 have hlt:∀ x,x < st'.length→o.idxOf x < st'.length:=fun x hx=>by rw [← hl]; exact List.idxOf_lt_length_of_mem (hin x hx)
 have hback:∀ x,x < st'.length→o.getD (o.idxOf x) 0=x:=fun x hx=>by
  rw [List.getD_eq_getElem?_getD,idx_at (hin x hx)]
  rfl
 have hmm:∀ i,i < st'.length→o.getD i 0 < st'.length:=fun i hi=>hout _ (getD_in (l:=o) (d:=0) (by omega)).1
 have nd:o.Nodup:=ho.nodup_iff.mpr List.nodup_range
 have hidx:∀ i,i < st'.length→o.idxOf (o.getD i 0)=i:=fun i hi=>by
  have:=List.Nodup.idxOf_getElem nd i (by omega)
  rw [List.getD_eq_getElem?_getD,List.getElem?_eq_getElem (by omega)]
  exact this
 refine ⟨fun q hq=>?_,⟨by rw [hlen]; exact hlt _ F.beg.1,by show ph (o.getD (o.idxOf b') 0)=b; rw [hback _ F.beg.1]; exact F.beg.2⟩,fun r hr=>?_,fun e he=>?_,fun r j hr hj=>?_⟩
 ·obtain ⟨x,hx,rfl⟩:=List.mem_map.mp hq
  obtain ⟨h1,h3⟩:=F.rect _ (getD_in (l:=st') (d:=[]) (hout x hx)).1
  rw [hlen]
  refine ⟨by rw [List.length_map]; exact h1,fun y hy=>?_⟩
  obtain ⟨t,ht,rfl⟩:=List.mem_map.mp hy
  exact hlt t (h3 t ht)
 ·rw [hlen] at hr
  rw [h2,← F.end_ _ (hmm r hr),List.mem_map]
  constructor
  ·rintro ⟨e,he,q⟩
   rw [← q,hback e (F.elt e he)]
   exact he
  ·intro h
   exact ⟨_,h,hidx r hr⟩
 ·rw [hlen]
  obtain ⟨x,hx,rfl⟩:=List.mem_map.mp ((h2 e).mp he)
  exact hlt x (F.elt x hx)
 ·rw [hlen] at hr
  have hx:=hmm r hr
  have e:stN (o.map fun x=>(st'.getD x []).map fun t=>o.idxOf t) r j=o.idxOf (stN st' (o.getD r 0) j):=by
   have hrow:=F.rect _ (getD_in (l:=st') (d:=[]) hx).1
   unfold stN
   rw [List.getD_eq_getElem?_getD (l:=o.map _),List.getElem?_map,(getD_in (l:=o) (i:=r) (d:=0) (by omega)).2]
   show ((st'.getD (o.getD r 0) []).map fun t=>o.idxOf t).getD j 0=_
   rw [List.getD_eq_getElem?_getD (l:=List.map _ _),List.getElem?_map,(getD_in (l:=st'.getD (o.getD r 0) []) (i:=j) (d:=0) (by omega)).2]
   rfl
  show ph (o.getD (stN _ r j) 0)=_
  rw [e,hback _ (stN_lt F.rect hx hj)]
  exact F.stp _ j hx hj
theorem idx_cast (o:List Nat) (x:Nat):(o.map fun n:Nat=>(n:Int)).idxOf ((x:Nat):Int)=o.idxOf x:=by
 induction o with
 | nil=>rfl
 | cons a t ih=>
  rw [List.map_cons,List.idxOf_cons,List.idxOf_cons,ih]
  by_cases c:a=x
  ·rw [beq_iff_eq.mpr c,beq_iff_eq.mpr (by omega:((a:Nat):Int)=(x:Int))]
  ·rw [beq_eq_false_iff_ne.mpr c,beq_eq_false_iff_ne.mpr (by omega:((a:Nat):Int)≠(x:Int))]
structure SoAt (H0:Hp) (p sc sL eL:Addr) (ras:List Addr) (es':List Nat) (st':List (List Nat)) (H:Hp):Prop where
 flow0:FlowAt H0 p sc
 flow:FlowAt H p sc
 drew:Drew H0 H p
 steps:H sL=some (.lst (ras.map V.ref))
 ends:H eL=some (.lst (es'.map nI))
 len:ras.length=st'.length
 rows:∀ (i:Nat) a r,ras[i]? = some a→st'[i]? = some r→H a=some (.lst (r.map nI))
 nd:ras.Nodup
 free:∀ a∈ras,H0 a=none∧a≠sL∧a≠eL
 nse:sL≠eL
 s0:H0 sL=none
 e0:H0 eL=none
section
variable {H0 H:Hp} {p sc sL eL:Addr} {ras:List Addr} {es':List Nat} {st':List (List Nat)}
theorem SoAt.np (S:SoAt H0 p sc sL eL ras es' st' H) {a:Addr} (h:H0 a=none):p≠a∧sc≠a:=by
 obtain ⟨xs,h1,_⟩:=S.flow0.here
 obtain ⟨ns,h2⟩:=S.flow0.cells
 exact ⟨ne_of_none h1 h,ne_of_none h2 h⟩
theorem SoAt.same (S:SoAt H0 p sc sL eL ras es' st' H) {H':Hp} (e:Same H H'):SoAt H0 p sc sL eL ras es' st' H':=
 ⟨S.flow0,S.flow.same e,fun b o hb hne=>e _ _ (S.drew b o hb hne),e _ _ S.steps,e _ _ S.ends,S.len,fun i a r h1 h2=>e _ _ (S.rows i a r h1 h2),S.nd,S.free,S.nse,S.s0,S.e0⟩
theorem SoAt.go (S:SoAt H0 p sc sL eL ras es' st' H) {xs:List V} (h:FlowXs sc xs):SoAt H0 p sc sL eL ras es' st' (upd H p (.lst xs)):=
 ⟨S.flow0,S.flow.go h,drew_go S.drew _,(upd_ne (S.np S.s0).1.symm).trans S.steps,(upd_ne (S.np S.e0).1.symm).trans S.ends,S.len,fun i a r h1 h2=>(upd_ne (S.np (S.free a (List.mem_of_getElem? h1)).1).1.symm).trans (S.rows i a r h1 h2),S.nd,S.free,S.nse,S.s0,S.e0⟩
theorem flow_put {H:Hp} {p sc s0:Addr} {o:HO} (F:FlowAt H p sc) (h1:p≠s0∧sc≠s0):FlowAt (upd H s0 o) p sc:=flow_store F h1.1 h1.2
theorem drew_put {H0 H:Hp} {p a:Addr} (d:Drew H0 H p) (h:H0 a=none) (o:HO):Drew H0 (upd H a o) p:=fun b u hb hne=>by
 rw [upd_ne (ne_of_none hb h)]
 exact d b u hb hne
theorem SoAt.row (S:SoAt H0 p sc sL eL ras es' st' H) {i:Nat} {a:Addr} (ha:ras[i]? = some a) (r':List Nat):SoAt H0 p sc sL eL ras es' (st'.set i r') (upd H a (.lst (r'.map nI))):=by
 obtain ⟨f1,f2,f3⟩:=S.free a (List.mem_of_getElem? ha)
 refine ⟨S.flow0,flow_put S.flow (S.np f1),drew_put S.drew f1 _,(upd_ne f2.symm).trans S.steps,(upd_ne f3.symm).trans S.ends,by rw [List.length_set]; exact S.len,fun j a' r h1 h2=>?_,S.nd,S.free,S.nse,S.s0,S.e0⟩
 have hi:=(List.getElem?_eq_some_iff.mp ha).1
 by_cases c:j=i
 ·subst c
  rw [ha] at h1
  cases h1
  rw [List.getElem?_set_self (by rw [← S.len]; exact hi)] at h2
  cases h2
  exact upd_same
 ·rw [List.getElem?_set_ne (fun z=>c z.symm)] at h2
  have na:a'≠a:=fun z=>by
   subst z
   obtain ⟨hj,e1⟩:=List.getElem?_eq_some_iff.mp h1
   obtain ⟨hi,e2⟩:=List.getElem?_eq_some_iff.mp ha
   have i1:=List.Nodup.idxOf_getElem S.nd j hj
   have i2:=List.Nodup.idxOf_getElem S.nd i hi
   rw [e1] at i1
   rw [e2,i1] at i2
   exact c i2
  exact (upd_ne na).trans (S.rows j a' r h1 h2)
theorem SoAt.more (S:SoAt H0 p sc sL eL ras es' st' H) {a:Addr} {r:List Nat} (hr:H a=some (.lst (r.map nI))) (h0:H0 a=none) (hn:a∉ras) (hs:a≠sL) (he:a≠eL):SoAt H0 p sc sL eL (ras ++ [a]) es' (st' ++ [r]) (upd H sL (.lst (ras.map V.ref ++ [.ref a]))):=by
 refine ⟨S.flow0,flow_put S.flow (S.np S.s0),drew_put S.drew S.s0 _,by rw [upd_same,List.map_append]; rfl,(upd_ne S.nse.symm).trans S.ends,by rw [List.length_append,List.length_append,S.len]; rfl,fun j a' r' h1 h2=>?_,?_,fun b hb=>?_,S.nse,S.s0,S.e0⟩
 ·rcases Nat.lt_or_ge j ras.length with z | z
  ·rw [List.getElem?_append_left z] at h1
   rw [List.getElem?_append_left (by rw [← S.len]; exact z)] at h2
   exact (upd_ne (S.free a' (List.mem_of_getElem? h1)).2.1).trans (S.rows j a' r' h1 h2)
  ·rw [List.getElem?_append_right z] at h1
   rw [List.getElem?_append_right (by rw [← S.len]; exact z),← S.len] at h2
   cases hj:j - ras.length with
   | zero=>
    rw [hj] at h1 h2
    cases h1
    cases h2
    exact (upd_ne hs).trans hr
   | succ n=>rw [hj] at h1; simp at h1
 ·rw [List.nodup_append]
  refine ⟨S.nd,by simp,fun x hx y hy e=>?_⟩
  have:y=a:=by simpa using hy
  rw [e,this] at hx
  exact hn hx
 ·rcases List.mem_append.mp hb with z | z
  ·exact S.free b z
  ·rw [List.mem_singleton.mp z]
   exact ⟨h0,hs,he⟩
theorem SoAt.end_ (S:SoAt H0 p sc sL eL ras es' st' H) (es2:List Nat):SoAt H0 p sc sL eL ras es2 st' (upd H eL (.lst (es2.map nI))):=
 ⟨S.flow0,flow_put S.flow (S.np S.e0),drew_put S.drew S.e0 _,(upd_ne S.nse).trans S.steps,upd_same,S.len,fun i a r h1 h2=>(upd_ne (S.free a (List.mem_of_getElem? h1)).2.2).trans (S.rows i a r h1 h2),S.nd,S.free,S.nse,S.s0,S.e0⟩
theorem SoAt.rowAt (S:SoAt H0 p sc sL eL ras es' st' H) {x:Nat} (hx:x < st'.length):∃ a,ras[x]? = some a∧atI (ras.map V.ref) ((x:Nat):Int)=some (.ref a)∧H a=some (.lst ((st'.getD x []).map nI)):=by
 have hra:x < ras.length:=by rw [S.len]; exact hx
 exact ⟨ras[x],List.getElem?_eq_getElem hra,atI_nat (by rw [List.getElem?_map,List.getElem?_eq_getElem hra]; rfl),S.rows x _ _ (List.getElem?_eq_getElem hra) (getD_mem (l:=st') (d:=[]) hx).2⟩
end
inductive spOtherI (vs:List V) (H:Hp) (Q:VK):Prop
 | mk (p sc m:Addr) (l:Str) (b:Nat) (es:List Nat) (st:List (List Nat)) (h1:vs=[.ref p,.ref m,.int 6]) (h2:MachAt H m l b es st) (h3:EsOk es st) (h4:FlowAt H p sc) (h5:∀ m' b' es' st' H',MachAt H' m' l b' es' st'→es'.length≤100∧st'.length≤6→Lk st es st' es' l.length b b'→Drew H H' p→FlowAt H' p sc→Q (.ref m') H'):spOtherI vs H Q
def spOther:Sp:=fun vs H Q u3_=>spOtherI vs H Q
theorem ixN_nat {n j:Nat} (h:j < n):ixN n ((j:Nat):Int)=some j:=by
 unfold ixN
 rw [if_pos (by omega),if_pos (by omega)]
 rfl
theorem nI_of {r:Int} (h:0≤r):V.int r=nI r.toNat:=by
 show V.int r=V.int ((r.toNat:Nat):Int)
 rw [show ((r.toNat:Nat):Int)=r by omega]
def soR (H:Hp) (p sc m y eL:Addr) (l:Str) (st:List (List Nat)) (es:List Nat) (b:Nat) (i:Nat) (σ:L2.St) (H6:Hp):Prop:=∃ (b':Nat) (es':List Nat) (st':List (List Nat)) (ras:List Addr) (ph:Nat→Nat) (v7 v8 v9 v10:Option V),σ=[some (.ref p),some (.ref m),some (.int 6),some (.str l),some (nI b'),some (.ref eL),some (.ref y),v7,v8,v9,v10,none,none,none]∧SoAt H p sc y eL ras es' st' H6∧Fold st es b l.length ph st' es' b'∧st'.length=st.length+i∧es'.length≤6+i
def soE (H:Hp) (p sc m y eL:Addr) (l:Str) (st:List (List Nat)) (es:List Nat) (b:Nat) (b' i y7:Nat) (st':List (List Nat)) (ph:Nat→Nat) (ras:List Addr) (a:Addr) (v9 v10:Option V) (σ':L2.St) (H':Hp):Prop:=∃ es2:List Nat,σ'=[some (.ref p),some (.ref m),some (.int 6),some (.str l),some (nI b'),some (.ref eL),some (.ref y),some (.int (0+(i:Int))),some (nI y7),v9,v10,none,none,none]∧SoAt H p sc y eL (ras ++ [a]) es2 (st' ++ [st'.getD y7 []]) H'∧Fold st es b l.length (fun r=>if r=st'.length then ph y7 else ph r) (st' ++ [st'.getD y7 []]) es2 b'∧es2.length≤6+(i+1)
def soL (H:Hp) (p sc m y eL:Addr) (l:Str) (st:List (List Nat)) (es:List Nat) (b:Nat) (b' i y7:Nat) (st':List (List Nat)) (ph2:Nat→Nat) (ras2:List Addr) (es2:List Nat) (i2:Nat) (σ:L2.St) (H11:Hp):Prop:=∃ (st3:List (List Nat)) (v9 v10:Option V),σ=[some (.ref p),some (.ref m),some (.int 6),some (.str l),some (nI b'),some (.ref eL),some (.ref y),some (.int (0+(i:Int))),some (nI y7),v9,v10,none,none,none]∧SoAt H p sc y eL ras2 es2 st3 H11∧Fold st es b l.length ph2 st3 es2 b'∧st3.length=st'.length+1
def soJ (H:Hp) (p sc m y eL:Addr) (l:Str) (st:List (List Nat)) (es:List Nat) (b:Nat) (b' i y7:Nat) (st':List (List Nat)) (ph2:Nat→Nat) (ras2:List Addr) (es2:List Nat) (a2:Addr) (j:Nat) (σ:L2.St) (H12:Hp):Prop:=∃ (st4:List (List Nat)) (v10:Option V),σ=[some (.ref p),some (.ref m),some (.int 6),some (.str l),some (nI b'),some (.ref eL),some (.ref y),some (.int (0+(i:Int))),some (nI y7),some (.ref a2),v10,none,none,none]∧SoAt H p sc y eL ras2 es2 st4 H12∧Fold st es b l.length ph2 st4 es2 b'∧st4.length=st'.length+1
theorem ok_law_same_otherwise {f:Addr} {fd:FuncData} (F:Fun K "_law_same_otherwise" "_law_same_otherwise" s_law_same_otherwise f fd) (Z:Blt mg) (C_law_pick:Cal P w K mg base "_law_pick" 1 ["_law_flow_here","_law_many"] spPick):FnOk P w K mg base CX0 2 f fd ["_law_flow_here","_law_machine_here","_law_most"] spOther:=by
 refine F.ok sc_law_same_otherwise (fun vs H Q E h=>?_) (fun cdv A outer s H vs Q E hr h=>?_)
 ·obtain ⟨p,sc,m,l,b,es,st,rfl,_⟩:=h
  rfl
 obtain ⟨p,sc,m,l,b,es,st,rfl,M,EO,FA,k⟩:=h
 refine ⟨_,(pss_cons (ps_asg (pv 1) (pg_tupK (K:=K) (n:=4) (by rfl) (pgs_cons (pg_name (i:=3) sc_law_same_otherwise.nd (by rfl) (Or.inl (by rfl))) (pgs_cons (pg_name (i:=4) sc_law_same_otherwise.nd (by rfl) (Or.inl (by rfl))) (pgs_cons (pg_name (i:=5) sc_law_same_otherwise.nd (by rfl) (Or.inl (by rfl))) (pgs_cons (pg_name (i:=6) sc_law_same_otherwise.nd (by rfl) (Or.inr (by rfl))) pgs_nil)))))) 
   (pss_cons (ps_set (i:=6) sc_law_same_otherwise.nd (by rfl) (Or.inr (by rfl)) (pe_comp (sc:=defScope s_law_same_otherwise) (Nm:=["_law_flow_here","_law_machine_here","_law_most","_law_letters_here","_law_begin","_law_ends","_law_steps","_law_turn","_law_like","_law_row","_law_at","_law_left","_law_order","_law_rows"]) (own:=["_law_row"]) (fr:=[]) ⟨rfl,by decide +kernel,by decide +kernel,by decide +kernel,by decide +kernel⟩ (by rfl) (gfr_name (by decide)) (pi_or (pi_listK (K:=K) (pv 6)) (pi_tupK (K:=K) (pv 6))) (fun d=>(pg_name (i:=0) nd_law_same_otherwise_0 (by rfl) (Or.inl (by rfl)))) (fun d=>pts_nil) (fun d=>(pe_callTy (call_listK (K:=K)) (by rfl) Z.list bt_list (pa_cons (pv 0) pa_nil))))) 
   (pss_cons (ps_set (i:=5) sc_law_same_otherwise.nd (by rfl) (Or.inl (by rfl)) (pe_callTy (call_listK (K:=K)) (by rfl) Z.list bt_list (pa_cons (pv 5) pa_nil))) 
   (pss_cons (ps_for PassesOwn.never (by rfl) (pi_range1 (by rfl) Z.range (pa_cons (pe_c C_law_pick (hr.mono (by decide)) (pa_cons (pv 0) (pa_cons (pe_op op_add (pe_op op_sub (pv 2) (pe_callB (call_lenK (K:=K)) (by rfl) Z.len bt_len (pa_cons (pv 6) pa_nil))) pe_int) pa_nil))) pa_nil)) (pg_name (i:=7) sc_law_same_otherwise.nd (by rfl) (Or.inl (by rfl))) 
    (pss_cons (ps_set (i:=8) sc_law_same_otherwise.nd (by rfl) (Or.inl (by rfl)) (pe_c C_law_pick (hr.mono (by decide)) (pa_cons (pv 0) (pa_cons (pe_callB (call_lenK (K:=K)) (by rfl) Z.len bt_len (pa_cons (pv 6) pa_nil)) pa_nil)))) 
    (pss_cons (ps_expr (pe_bmK (K:=K) PySem.F.plainAttrs_list PySem.F.slot_list_append PySem.F.type_list_append mt_append (pv 6) (pa_cons (pe_callTy (call_listK (K:=K)) (by rfl) Z.list bt_list (pa_cons (pe_ix (ix_listK (K:=K)) (pv 6) (pv 8) (fun _ _=>rfl)) pa_nil)) pa_nil))) 
    (pss_cut (ps_if (pt_cmpR (op_inK (K:=K)) (pv 8) (pv 5) (by with_unfolding_all rfl)) 
     (pss_one (ps_expr (pe_bmK (K:=K) PySem.F.plainAttrs_list PySem.F.slot_list_append PySem.F.type_list_append mt_append (pv 5) (pa_cons (pe_op op_sub (pe_callB (call_lenK (K:=K)) (by rfl) Z.len bt_len (pa_cons (pv 6) pa_nil)) pe_int) pa_nil)))) pss_nil) 
    (pss_cons (ps_for PassesOwn.never (by rfl) (pi_or (pi_listK (K:=K) (pv 6)) (pi_tupK (K:=K) (pv 6))) (pg_name (i:=9) sc_law_same_otherwise.nd (by rfl) (Or.inl (by rfl))) 
     (pss_one (ps_for PassesOwn.never (by rfl) (pi_range1 (by rfl) Z.range (pa_cons (pe_callB (call_lenK (K:=K)) (by rfl) Z.len bt_len (pa_cons (pv 9) pa_nil)) pa_nil)) (pg_name (i:=10) sc_law_same_otherwise.nd (by rfl) (Or.inl (by rfl))) 
      (pss_one (ps_if (PW.pt (pw_and (pt_cmpR op_eq (pe_ix (ix_listK (K:=K)) (pv 9) (pv 10) (fun _ _=>rfl)) (pv 8) (nomark _)) (pw_and1 (pt_cmpR op_eq (pe_c C_law_pick (hr.mono (by decide)) (pa_cons (pv 0) (pa_cons pe_int pa_nil))) pe_int (nomark _))))) 
       (pss_one (ps_asg (pe_op op_sub (pe_callB (call_lenK (K:=K)) (by rfl) Z.len bt_len (pa_cons (pv 6) pa_nil)) pe_int) (pg_sub (pv 9) (pv 10) set_list))) pss_nil))))) 
    (pss_one (ps_if (PW.pt (pw_and (pt_cmpR op_eq (pv 4) (pv 8) (nomark _)) (pw_and1 (pt_cmpR op_eq (pe_c C_law_pick (hr.mono (by decide)) (pa_cons (pv 0) (pa_cons pe_int pa_nil))) pe_int (nomark _))))) 
     (pss_one (ps_set (i:=4) sc_law_same_otherwise.nd (by rfl) (Or.inl (by rfl)) (pe_op op_sub (pe_callB (call_lenK (K:=K)) (by rfl) Z.len bt_len (pa_cons (pv 6) pa_nil)) pe_int))) pss_nil))))))) 
   (pss_cons (ps_set (i:=11) sc_law_same_otherwise.nd (by rfl) (Or.inr (by rfl)) (pe_listRg (by rfl) (by rfl) Z.list (by rfl) Z.range (pe_callB (call_lenK (K:=K)) (by rfl) Z.len bt_len (pa_cons (pv 6) pa_nil)))) 
   (pss_cons (ps_set (i:=12) sc_law_same_otherwise.nd (by rfl) (Or.inr (by rfl)) (pe_comp (sc:=defScope s_law_same_otherwise) (Nm:=["_law_flow_here","_law_machine_here","_law_most","_law_letters_here","_law_begin","_law_ends","_law_steps","_law_turn","_law_like","_law_row","_law_at","_law_left","_law_order","_law_rows"]) (own:=["_law_room"]) (fr:=[0,11]) ⟨rfl,by decide +kernel,by decide +kernel,by decide +kernel,by decide +kernel⟩ (by rfl) (gfr_name (by decide)) (pi_or (pi_listK (K:=K) (pv 6)) (pi_tupK (K:=K) (pv 6))) (fun d=>(pg_name (i:=0) nd_law_same_otherwise_1 (by rfl) (Or.inl (by rfl)))) (fun d=>pts_nil) (fun d=>(pe_bmK (K:=K) PySem.F.plainAttrs_list PySem.F.slot_list_pop PySem.F.type_list_pop mt_popAt (pv 2) (pa_cons (pe_c C_law_pick (hr.mono (by decide)) (pa_cons (pv 1) (pa_cons (pe_callB (call_lenK (K:=K)) (by rfl) Z.len bt_len (pa_cons (pv 2) pa_nil)) pa_nil))) pa_nil))))) 
   (pss_cons (ps_setc (i:=13) sc_law_same_otherwise.nd (by rfl) (by rfl) (sc:=defScope s_law_same_otherwise) (Nm:=["_law_flow_here","_law_machine_here","_law_most","_law_letters_here","_law_begin","_law_ends","_law_steps","_law_turn","_law_like","_law_row","_law_at","_law_left","_law_order","_law_rows"]) (own:=["_law_room"]) (fr:=[6,12]) ⟨rfl,by decide +kernel,by decide +kernel,by decide +kernel,by decide +kernel⟩ (by rfl) (gfr_name (by decide)) (pi_listK (K:=K) (pv 12)) (fun d=>(pg_name (i:=0) nd_law_same_otherwise_2 (by rfl) (Or.inl (by rfl)))) (fun d=>pts_nil) (fun d=>(pe_callTy (call_tupK (K:=K)) (by rfl) Z.tuple bt_tuple (pa_cons (pe_comp (sc:={ kind:=PySem.ScopeKind.function,names:=[ (PySem.Str.ofString ".0",PySem.NameKind.local),(PySem.Str.ofString "_law_room",PySem.NameKind.local),(PySem.Str.ofString "tuple",PySem.NameKind.globalImplicit),(PySem.Str.ofString "_law_order",PySem.NameKind.cell),(PySem.Str.ofString "_law_steps",PySem.NameKind.cell)],isGenerator:=false,isCoroutine:=false,more:=[]:PySem.Scope }) (Nm:=["_law_room","_law_steps","_law_order"]) (own:=["_law_to"]) (fr:=[2]) ⟨rfl,by decide +kernel,by decide +kernel,by decide +kernel,by decide +kernel⟩ (by rfl) (gfr_name (by decide)) (pi_listK (K:=K) (pe_ix (ix_listK (K:=K)) (pv 1) (pv 0) (fun _ _=>rfl))) (fun d=>(pg_name (i:=0) nd_law_same_otherwise_3 (by rfl) (Or.inl (by rfl)))) (fun d=>pts_nil) (fun d=>(pe_bmK (K:=K) PySem.F.plainAttrs_list PySem.F.slot_list_index PySem.F.type_list_index mt_indexL (pv 1) (pa_cons (pv 0) pa_nil)))) pa_nil)))) 
   (pss_one (ps_ret (pe_tup (pa_cons (pv 3) (pa_cons (pe_bmK (K:=K) PySem.F.plainAttrs_list PySem.F.slot_list_index PySem.F.type_list_index mt_indexL (pv 12) (pa_cons (pv 4) pa_nil)) (pa_cons (pe_callTy (call_tupK (K:=K)) (by rfl) Z.tuple bt_tuple (pa_cons (pe_callB (call_sortI (K:=K)) (by rfl) Z.sorted bt_sorted (pa_cons (pe_comp (sc:=defScope s_law_same_otherwise) (Nm:=["_law_flow_here","_law_machine_here","_law_most","_law_letters_here","_law_begin","_law_ends","_law_steps","_law_turn","_law_like","_law_row","_law_at","_law_left","_law_order","_law_rows"]) (own:=["_law_room"]) (fr:=[12]) ⟨rfl,by decide +kernel,by decide +kernel,by decide +kernel,by decide +kernel⟩ (by rfl) (gfr_name (by decide)) (pi_listK (K:=K) (pv 5)) (fun d=>(pg_name (i:=0) nd_law_same_otherwise_4 (by rfl) (Or.inl (by rfl)))) (fun d=>pts_nil) (fun d=>(pe_bmK (K:=K) PySem.F.plainAttrs_list PySem.F.slot_list_index PySem.F.type_list_index mt_indexL (pv 1) (pa_cons (pv 0) pa_nil)))) pa_nil)) pa_nil)) (pa_cons (pe_callTy (call_tupK (K:=K)) (by rfl) Z.tuple bt_tuple (pa_cons (pv 13) pa_nil)) pa_nil)))))))))))))),?_⟩
 refine (let zz0:TS:=_; let zz1:TS:=tSeq _ zz0; let zz2:TS:=tSeq _ zz1; let zz3:TS:=tSeq _ zz2; let zz4:TS:=_; let zz5:TS:=tSeq _ zz4; let zz6:TS:=tCut _ zz5; let zz7:TS:=tSeq _ zz6; let zz8:TS:=tSeq _ zz7; let zz9:TS:=tSeq (tFor _ _ zz8) zz3; let zz10:TS:=tSeq _ zz9; let zz11:TS:=tSeq _ zz10; (?_:tSeq _ zz11 _ _ _))
 obtain ⟨eA,sA,ra0,h1,h2,h3,h4,h5⟩:=M.lay
 have hst:=EO.2.2
 have hll:=M.few.2.1
 have hbeg:=M.beg
 have hrect:Rect st l.length:=M.rows
 refine ⟨_,rfl,m,_,rfl,SqT.of h1,rfl,_,_,rfl,_,_,rfl,_,_,rfl,_,_,rfl,rfl,?_⟩
 refine Or.inr ⟨_,rfl,sA,rfl,⟨_,SqT.of h3⟩,?_⟩
 refine comp_tup (K:=K) (a:=sA) (xs:=ra0.map V.ref) (fun i acc H2=>∃ ras:List Addr,acc=ras.map V.ref∧ras.length=i∧(∀ (j:Nat) a r,ras[j]? = some a→st[j]? = some r→H2 a=some (.lst (r.map nI)))∧(∀ a∈ras,∃ o,H2 a=some o)∧ras.Nodup∧(∀ a∈ras,H a=none)∧Same H H2) (by rw [List.length_map]; exact small1000 (by omega)) ⟨[],rfl,rfl,fun j a r z=>by simp at z,fun a z=>absurd z (by simp),List.nodup_nil,fun a z=>absurd z (by simp),Same.refl _⟩
  (fun j acc H2 ⟨ras,e,hl,_⟩=>by rw [e,List.length_map,hl]; exact Nat.le_refl _) (fun j acc H2 ⟨ras,e,hl,_,_,_,_,e2⟩=>SqT.of (e2 _ _ h3)) (fun j acc H2 x hxj q=>?_) (fun acc H2 q y hy=>?_)
 ·obtain ⟨ras,rfl,hl,hrow,hsome,hnd,hfree,e2⟩:=q
  rw [List.getElem?_map] at hxj
  cases hc:ra0[j]? with
  | none=>rw [hc] at hxj; cases hxj
  | some a=>
   rw [hc] at hxj
   cases hxj
   have hj:j < st.length:=by rw [← h4]; exact (List.getElem?_eq_some_iff.mp hc).1
   have ha:=h5 j a _ hc (getD_mem (l:=st) (d:=[]) hj).2
   refine cyes ⟨_,rfl,a,_,rfl,.inr (SqT.of (e2 _ _ ha)),fun q hq=>?_⟩
   have s3:=same_new hq (.lst ((st.getD j []).map nI))
   refine ⟨ras ++ [q],by rw [List.map_append]; rfl,by rw [List.length_append,hl]; rfl,fun i a' r z1 z2=>?_,fun a' h'=>?_,?_,fun a' h'=>?_,e2.trans s3⟩
   ·rcases Nat.lt_or_ge i ras.length with z | z
    ·rw [List.getElem?_append_left z] at z1
     exact s3 _ _ (hrow i a' r z1 z2)
    ·rw [List.getElem?_append_right z] at z1
     cases hi:i - ras.length with
     | zero=>
      rw [hi] at z1
      cases z1
      have hij:i=j:=by omega
      subst hij
      rw [(getD_mem (l:=st) (d:=[]) hj).2] at z2
      cases z2
      exact upd_same
     | succ n=>rw [hi] at z1; simp at z1
   ·rcases List.mem_append.mp h' with z | z
    ·obtain ⟨o,ho⟩:=hsome a' z
     exact ⟨o,s3 _ _ ho⟩
    ·rw [List.mem_singleton.mp z]
     exact ⟨_,upd_same⟩
   ·rw [List.nodup_append]
    refine ⟨hnd,by simp,fun x hx y hy e=>?_⟩
    have:y=q:=by simpa using hy
    rw [e,this] at hx
    obtain ⟨o,ho⟩:=hsome q hx
    rw [hq] at ho
    cases ho
   ·rcases List.mem_append.mp h' with z | z
    ·exact hfree a' z
    ·rw [List.mem_singleton.mp z]
     exact none_of e2 hq
 obtain ⟨ras,rfl,hl,hrow,hsome,hnd,hfree,e2⟩:=q
 rw [List.length_map,h4] at hl
 have s3:=same_new hy (.lst (ras.map V.ref))
 have h3y:upd H2 y (.lst (ras.map V.ref)) y=some (.lst (ras.map V.ref)):=upd_same
 have hny:∀ a∈ras,a≠y:=fun a ha=>by
  obtain ⟨o,ho⟩:=hsome a ha
  exact ne_of_none ho hy
 have hy0:=none_of e2 hy
 generalize upd H2 y (.lst (ras.map V.ref))=H3 at s3 h3y
 have e3:=e2.trans s3
 refine ⟨_,rfl,eA,_,rfl,.inr (SqT.of (e3 _ _ h2)),fun eL heL=>?_⟩
 have s4:=same_new heL (.lst (es.map nI))
 have hne:∀ a∈ras,a≠eL:=fun a ha=>by
  obtain ⟨o,ho⟩:=hsome a ha
  exact ne_of_none (s3 _ _ ho) heL
 have S4:SoAt H p sc y eL ras es st (upd H3 eL (.lst (es.map nI))):=
  ⟨FA,FA.same (e3.trans s4),Drew.same (e3.trans s4),s4 _ _ h3y,upd_same,hl,fun i a r q1 q2=>s4 _ _ (s3 _ _ (hrow i a r q1 q2)),hnd,fun a ha=>⟨hfree a ha,hny a ha,hne a ha⟩,ne_of_none h3y heL,hy0,none_of e3 heL⟩
 generalize upd H3 eL (.lst (es.map nI))=H4 at s4 S4
 have F4:=Fold.id_ hrect hbeg EO.2.1
 clear hne s4 heL hny hsome hrow hfree
 have hy0:=S4.s0
 refine ⟨_,rfl,_,rfl,_,rfl,y,_,rfl,.inl (SqL.of S4.steps),_,_,rfl,rfl,_,_,rfl,rfl,p,sc,_,rfl,by rw [List.length_map]; omega,by rw [List.length_map]; omega,S4.flow,fun r0 xs0 hr0 hr1 hx0=>⟨_,rfl,by omega,by rw [List.length_map] at hr1; omega,?_⟩⟩
 rw [List.length_map] at hr1
 have S5:=S4.go hx0
 generalize upd H4 p (.lst xs0)=H5 at S5
 refine for_range (lo:=0) (n:=r0.toNat) (soR H p sc m y eL l st es b)
  ⟨b,es,st,ras,id,none,none,none,none,rfl,S5,F4,rfl,EO.1⟩ ?_ ?_
 ·rintro i σ H6 hi ⟨b',es',st',ras,ph,v7,v8,v9,v10,rfl,S6,F6,hl6,he6⟩
  have hs6:st'.length≤6:=by omega
  have hrl:=S6.len
  refine ⟨_,rfl,_,rfl,y,_,rfl,.inl (SqL.of S6.steps),p,sc,_,rfl,by rw [List.length_map]; have:=F6.beg.1; omega,by rw [List.length_map]; omega,S6.flow,fun r7 xs7 h70 h71 hx7=>?_⟩
  rw [List.length_map] at h71
  have S7:=S6.go hx7
  generalize upd H6 p (.lst xs7)=H7 at S7
  have hlk:r7.toNat < st'.length:=by omega
  obtain ⟨a7,ha7,hat7,hrow7⟩:=S7.rowAt hlk
  rw [nI_of h70]
  generalize r7.toNat=y7 at hlk ha7 hat7 hrow7
  refine ⟨_,rfl,.inl ⟨rfl,_,SqL.of S7.steps⟩,_,rfl,_,rfl,y,_,_,_,rfl,rfl,SqL.of S7.steps,hat7,a7,_,rfl,.inl (SqL.of hrow7),fun a ha=>?_⟩
  have s8:=same_new ha (.lst ((st'.getD y7 []).map nI))
  have h8a:upd H7 a (.lst ((st'.getD y7 []).map nI)) a=some (.lst ((st'.getD y7 []).map nI)):=upd_same
  have S8:=S7.same s8
  have ha0:H a=none:=by
   cases hc:H a with
   | none=>rfl
   | some o=>
    by_cases z:a=p
    ·obtain ⟨xs,q,_⟩:=S7.flow.here
     rw [z,q] at ha
     cases ha
    ·rw [S7.drew a o hc z] at ha
     cases ha
  have nay:a≠y:=(ne_of_none S7.steps ha).symm
  have nae:a≠eL:=(ne_of_none S7.ends ha).symm
  have nar:a∉ras:=fun z=>by
   obtain ⟨j,hj,e⟩:=List.getElem_of_mem z
   have hj':j < st'.length:=by omega
   have:=S7.rows j a _ (by rw [List.getElem?_eq_getElem hj,e]) (getD_mem (l:=st') (d:=[]) hj').2
   rw [ha] at this
   cases this
  generalize upd H7 a (.lst ((st'.getD y7 []).map nI))=H8 at s8 h8a S8
  refine ⟨y,_,_,rfl,rfl,S8.steps,by rw [List.length_map]; exact small1000 (by omega),?_⟩
  have S9:=S8.more h8a ha0 nar nay nae
  generalize upd H8 y (.lst (ras.map V.ref ++ [.ref a]))=H9 at S9
  have F9:=F6.more hlk
  have hl9:(st' ++ [st'.getD y7 []]).length=st'.length+1:=by rw [List.length_append]; rfl
  have hpn:(if st'.length=st'.length then ph y7 else ph st'.length)=ph y7:=if_pos rfl
  have hpo:∀ r,r < st'.length→(if r=st'.length then ph y7 else ph r)=ph r:=fun r hr=>if_neg (by omega)
  refine ⟨soE H p sc m y eL l st es b b' i y7 st' ph ras a v9 v10,?_,?_⟩
  ·have hin:inV (nI y7) (es'.map nI)=decide (y7∈es'):=inV_nI y7 es'
   refine ⟨_,rfl,_,rfl,eL,_,rfl,.inl (SqL.of S9.ends),rfl,flat_nI es',_,rfl,?_⟩
   rw [hin]
   refine ite2 (fun c=>?_) (fun c=>?_)
   ·have c':y7∈es':=of_decide_eq_true c
    rw [if_pos c'] at F9
    refine ⟨_,rfl,.inl ⟨rfl,_,SqL.of S9.ends⟩,_,rfl,y,_,rfl,.inl (SqL.of S9.steps),_,_,rfl,rfl,eL,_,_,rfl,rfl,S9.ends,by rw [List.length_map]; exact small1000 (by omega),?_⟩
    have e9:V.int ((((ras ++ [a]).map V.ref).length:Nat) - 1:Int)=nI st'.length:=by
     show V.int _=V.int ((st'.length:Nat):Int)
     rw [List.length_map,S9.len,hl9]
     congr 1
     omega
    have S9':SoAt H p sc y eL (ras ++ [a]) (es' ++ [st'.length]) (st' ++ [st'.getD y7 []]) (upd H9 eL (.lst (es'.map nI ++ [V.int ((((ras ++ [a]).map V.ref).length:Nat) - 1:Int)]))):=by
     rw [e9,map_snoc]
     exact S9.end_ _
    exact ⟨_,rfl,S9',F9,by rw [List.length_append]; show es'.length+1≤_; omega⟩
   ·have c':¬ y7∈es':=fun z=>c (decide_eq_true z)
    rw [if_neg c'] at F9
    exact ⟨_,rfl,S9,F9,by omega⟩
  clear S9 F9 S8 h8a s8 hrow7 hat7 ha7 S7 S6
  rintro σ' H10 ⟨es2,rfl,S10,F10,he10⟩
  have hph:(fun r=>if r=st'.length then ph y7 else ph r) st'.length=(fun r=>if r=st'.length then ph y7 else ph r) y7:=by
   show (if st'.length=st'.length then ph y7 else ph st'.length)=if y7=st'.length then ph y7 else ph y7
   rw [hpn,hpo y7 hlk]
  generalize (fun r=>if r=st'.length then ph y7 else ph r)=ph2 at F10 hph
  generalize hst2:st' ++ [st'.getD y7 []]=st2 at S10 F10 hl9
  generalize ras ++ [a]=ras2 at S10
  clear hst2 hpn hpo nar nay nae ha0 hrl F6
  refine Or.inl ⟨_,rfl,y,rfl,⟨_,SqL.of S10.steps⟩,?_⟩
  refine for_list (K:=K) (a:=y) (xs:=ras2.map V.ref) (soL H p sc m y eL l st es b b' i y7 st' ph2 ras2 es2)
   ⟨st2,v9,v10,rfl,S10,F10,hl9⟩ (fun i2 σ H11 _ h=>?_) ?_ ?_
  ·obtain ⟨_,_,_,_,S11,_⟩:=h
   exact SqL.of S11.steps
  ·rintro i2 x σ H11 hx ⟨st3,v9,v10,rfl,S11,F11,hl11⟩
   rw [List.getElem?_map] at hx
   cases hc:ras2[i2]? with
   | none=>rw [hc] at hx; cases hx
   | some a2=>
    rw [hc] at hx
    cases hx
    have hi2:i2 < st3.length:=by rw [← S11.len]; exact (List.getElem?_eq_some_iff.mp hc).1
    have hrow:=S11.rows i2 a2 _ hc (getD_mem (l:=st3) (d:=[]) hi2).2
    have hrw:=(F11.rect _ (getD_mem (l:=st3) (i:=i2) (d:=[]) hi2).1).1
    refine ⟨_,rfl,a2,_,rfl,.inl (SqL.of hrow),_,rfl,by omega,by rw [List.length_map]; omega,?_⟩
    rw [List.length_map,hrw]
    refine for_range (lo:=0) (n:=((l.length:Nat):Int).toNat) (soJ H p sc m y eL l st es b b' i y7 st' ph2 ras2 es2 a2)
     ⟨st3,v10,rfl,S11,F11,hl11⟩ ?_ ?_
    ·rintro j σ H12 hj ⟨st4,v10,rfl,S12,F12,hl12⟩
     have hj':j < l.length:=by omega
     have hi4:i2 < st4.length:=by rw [hl12,← hl11]; exact hi2
     have hr4:=getD_mem (l:=st4) (i:=i2) (d:=[]) hi4
     have hrow:=S12.rows i2 a2 _ hc hr4.2
     have hrw:=F12.rect _ hr4.1
     have hst4:st4[i2]? = some (st4.getD i2 []):=hr4.2
     have hstep:(st4.getD i2 []).getD j 0=stN st4 i2 j:=rfl
     generalize st4.getD i2 []=row at hrow hrw hst4
     have hat:atI (row.map nI) (0+(j:Int))=some (nI (row.getD j 0)):=by
      rw [show (0:Int)+(j:Int)=((j:Nat):Int) by omega]
      exact atI_nat (by rw [List.getElem?_map,(getD_mem (l:=row) (d:=0) (show j < row.length by omega)).2]; rfl)
     refine ⟨_,rfl,_,rfl,a2,_,_,_,rfl,rfl,SqL.of hrow,hat,_,rfl,rfl,_,rfl,?_⟩
     refine ite2 (fun c=>?_) (fun c=>?_)
     ·have c':row.getD j 0=y7:=by
       have:=of_decide_eq_true c
       have:(((row.getD j 0:Nat):Int))=(y7:Int):=V.int.inj this
       omega
      refine ⟨_,rfl,p,sc,2,rfl,by decide,by decide,S12.flow,fun r13 xs13 _ _ hx13=>⟨rfl,_,rfl,?_⟩⟩
      have S13:=S12.go hx13
      generalize upd H12 p (.lst xs13)=H13 at S13
      refine ite2 (fun _=>?_) (fun _=>?_)
      ·have hrow13:=S13.rows i2 a2 _ hc hst4
       refine ⟨_,rfl,y,_,rfl,.inl (SqL.of S13.steps),_,_,rfl,rfl,_,rfl,_,rfl,a2,_,_,j,rfl,rfl,hrow13,?_,?_⟩
       ·rw [List.length_map]
        show ixN row.length (0+(j:Int))=some j
        rw [show (0:Int)+(j:Int)=((j:Nat):Int) by omega]
        exact ixN_nat (by omega)
       ·have e9:V.int (((ras2.map V.ref).length:Nat) - 1:Int)=nI st'.length:=by
         show V.int _=V.int ((st'.length:Nat):Int)
         rw [List.length_map,S13.len,hl12]
         congr 1
         omega
        have S14:SoAt H p sc y eL ras2 es2 (st4.set i2 (row.set j st'.length)) (upd H13 a2 (.lst ((row.map nI).set j (V.int (((ras2.map V.ref).length:Nat) - 1:Int))))):=by
         rw [e9,← List.map_set]
         exact S13.row hc _
        refine ⟨st4.set i2 (row.set j st'.length),_,rfl,S14,F12.set hst4 (by omega) (by omega) ?_,by rw [List.length_set]; exact hl12⟩
        rw [c']
        exact hph
      ·exact ⟨st4,_,rfl,S13,F12,hl12⟩
     ·exact ⟨st4,_,rfl,S12,F12,hl12⟩
    ·rintro σ H12 ⟨st4,v10,rfl,S12,F12,hl12⟩
     exact ⟨st4,_,_,rfl,S12,F12,hl12⟩
  ·rintro σ H11 ⟨st3,v9,v10,rfl,S11,F11,hl11⟩
   refine ⟨_,rfl,_,rfl,rfl,_,rfl,?_⟩
   refine ite2 (fun c=>?_) (fun c=>?_)
   ·have c':b'=y7:=by
     have:=of_decide_eq_true c
     have:(((b':Nat):Int))=(y7:Int):=V.int.inj this
     omega
    refine ⟨_,rfl,p,sc,2,rfl,by decide,by decide,S11.flow,fun r13 xs13 _ _ hx13=>⟨rfl,_,rfl,?_⟩⟩
    have S13:=S11.go hx13
    generalize upd H11 p (.lst xs13)=H13 at S13
    refine ite2 (fun _=>?_) (fun _=>?_)
    ·refine ⟨_,rfl,y,_,rfl,.inl (SqL.of S13.steps),_,_,rfl,rfl,?_⟩
     have e9:V.int (((ras2.map V.ref).length:Nat) - 1:Int)=nI st'.length:=by
      show V.int _=V.int ((st'.length:Nat):Int)
      rw [List.length_map,S13.len,hl11]
      congr 1
      omega
     exact ⟨st'.length,es2,st3,ras2,ph2,_,_,_,_,(by rw [← e9]; rfl),S13,F11.begin (by omega) (by rw [c']; exact hph),by omega,he10⟩
    ·exact ⟨b',es2,st3,ras2,ph2,_,_,_,_,rfl,S13,F11,by omega,he10⟩
   ·exact ⟨b',es2,st3,ras2,ph2,_,_,_,_,rfl,S11,F11,by omega,he10⟩
 ·rintro σ H6 ⟨b',es',st',ras,ph,v7,v8,v9,v10,rfl,S6,F6,hl6,he6⟩
  have hs6:st'.length≤6:=by omega
  have hrl:=S6.len
  have hrlm:(ras.map V.ref).length=st'.length:=by rw [List.length_map,hrl]
  refine ⟨_,rfl,y,_,rfl,.inl (SqL.of S6.steps),(ras.map V.ref).length,rfl,by omega,fun lf hlf=>?_⟩
  rw [hrlm]
  have s7:=same_new hlf (.lst ((List.range st'.length).map fun i:Nat=>V.int (i:Int)))
  have h7l:upd H6 lf (.lst ((List.range st'.length).map fun i:Nat=>V.int (i:Int))) lf=some (.lst ((List.range st'.length).map nI)):=upd_same
  have S7:=S6.same s7
  have hlf0:H lf=none:=by
   cases hc:H lf with
   | none=>rfl
   | some o=>
    by_cases z:lf=p
    ·obtain ⟨xs,q,_⟩:=S6.flow.here
     rw [z,q] at hlf
     cases hlf
    ·rw [S6.drew lf o hc z] at hlf
     cases hlf
  have nly:y≠lf:=ne_of_none S6.steps hlf
  have nle:eL≠lf:=ne_of_none S6.ends hlf
  have nlr:∀ a∈ras,a≠lf:=fun a ha=>by
   obtain ⟨j,hj,e⟩:=List.getElem_of_mem ha
   exact ne_of_none (S6.rows j a _ (by rw [List.getElem?_eq_getElem hj,e]) (getD_mem (l:=st') (d:=[]) (by omega)).2) hlf
  have Sput:∀ {H':Hp} (o:HO),SoAt H p sc y eL ras es' st' H'→SoAt H p sc y eL ras es' st' (upd H' lf o):=fun o S=>
   ⟨S.flow0,flow_put S.flow (S.np hlf0),drew_put S.drew hlf0 _,(upd_ne nly).trans S.steps,(upd_ne nle).trans S.ends,S.len,fun i a r h1 h2=>(upd_ne (nlr a (List.mem_of_getElem? h1))).trans (S.rows i a r h1 h2),S.nd,S.free,S.nse,S.s0,S.e0⟩
  generalize upd H6 lf (.lst ((List.range st'.length).map fun i:Nat=>V.int (i:Int)))=H7 at s7 h7l S7
  refine Or.inl ⟨_,rfl,y,rfl,⟨_,SqL.of S7.steps⟩,?_⟩
  refine comp_list (K:=K) (a:=y) (xs:=ras.map V.ref) (fun i acc H8=>∃ ys rem:List Nat,acc=ys.map nI∧ys.length=i∧H8 lf=some (.lst (rem.map nI))∧(ys ++ rem).Perm (List.range st'.length)∧SoAt H p sc y eL ras es' st' H8) (by rw [hrlm]; exact small1000 (by omega)) ⟨[],List.range st'.length,rfl,rfl,h7l,List.Perm.refl _,S7⟩
   (fun i acc H8 ⟨ys,rem,e,hl,_⟩=>by rw [e,List.length_map,hl]; exact Nat.le_refl _) (fun i acc H8 ⟨ys,rem,e,hl,_,_,S8⟩=>SqL.of S8.steps) (fun i acc H8 x hx q=>?_) (fun acc H8 q op hop=>?_)
  ·obtain ⟨ys,rem,rfl,hyl,h8l,hperm,S8⟩:=q
   have hi:=(List.getElem?_eq_some_iff.mp hx).1
   rw [hrlm] at hi
   have hlen:ys.length+rem.length=st'.length:=by
    have:=hperm.length_eq
    rw [List.length_append,List.length_range] at this
    exact this
   refine cyes ⟨_,rfl,.inl ⟨rfl,_,SqL.of h8l⟩,_,rfl,_,rfl,lf,_,rfl,.inl (SqL.of h8l),p,sc,_,rfl,by rw [List.length_map]; omega,by rw [List.length_map]; omega,S8.flow,fun r9 xs9 h90 h91 hx9=>?_⟩
   rw [List.length_map] at h91
   have hrn:r9.toNat < rem.length:=by omega
   have hv:rem[r9.toNat]? = some rem[r9.toNat]:=List.getElem?_eq_getElem hrn
   have S9:=S8.go hx9
   have h9l:upd H8 p (.lst xs9) lf=some (.lst (rem.map nI)):=(upd_ne (S8.np hlf0).1.symm).trans h8l
   generalize upd H8 p (.lst xs9)=H9 at S9 h9l
   refine ⟨lf,_,r9,r9.toNat,nI rem[r9.toNat],rfl,rfl,h9l,by omega,by omega,?_,?_,?_⟩
   ·rw [List.length_map]
    exact seqIndex_of h90 h91
   ·rw [List.getElem?_map,hv]
    rfl
   ·refine ⟨ys ++ [rem[r9.toNat]],rem.eraseIdx r9.toNat,by rw [List.map_append]; rfl,by rw [List.length_append,hyl]; rfl,?_,?_,Sput _ S9⟩
    ·rw [upd_same,erase_map]
    ·rw [List.append_assoc]
     exact (List.Perm.append_left ys (erase_perm hv)).trans hperm
  obtain ⟨ys,rem,rfl,hyl,h8l,hperm,S8⟩:=q
  rw [hrlm] at hyl
  have hrem:rem=[]:=by
   have:=hperm.length_eq
   rw [List.length_append,List.length_range] at this
   exact List.eq_nil_of_length_eq_zero (by omega)
  rw [hrem,List.append_nil] at hperm
  clear hrem h8l
  have s9:=same_new hop (.lst (ys.map nI))
  have h9o:upd H8 op (.lst (ys.map nI)) op=some (.lst (ys.map nI)):=upd_same
  have S9:=S8.same s9
  generalize upd H8 op (.lst (ys.map nI))=H9 at s9 h9o S9
  have hin:∀ x,x < st'.length→x∈ys:=fun x hx=>hperm.mem_iff.mpr (List.mem_range.mpr hx)
  have hout:∀ x,x∈ys→x < st'.length:=fun x hx=>List.mem_range.mp (hperm.mem_iff.mp hx)
  have hcast:ys.map nI=(ys.map fun n:Nat=>(n:Int)).map V.int:=by rw [List.map_map]; rfl
  have hI:∀ {H':Hp},H' op=some (.lst (ys.map nI))→H' op=some (.lst ((ys.map fun n:Nat=>(n:Int)).map V.int)):=fun h=>by rw [← hcast]; exact h
  have hmI:∀ {x:Nat},x < st'.length→((x:Nat):Int)∈ys.map fun n:Nat=>(n:Int):=fun {x} hx=>List.mem_map.mpr ⟨x,hin x hx,rfl⟩
  refine ⟨_,rfl,op,rfl,⟨_,SqL.of h9o⟩,?_⟩
  refine comp_list (K:=K) (a:=op) (xs:=ys.map nI) (fun i acc H10=>RowsN H10 acc ((ys.map fun x=>(st'.getD x []).map fun t=>ys.idxOf t).take i)∧Same H9 H10) (by rw [List.length_map,hyl]; exact small1000 (by omega)) ⟨⟨rfl,fun i x r a=>by simp at a⟩,Same.refl _⟩
   (fun i acc H8 p=>by rw [p.1.1,List.length_take]; exact Nat.min_le_left _ _) (fun i acc H10 q=>SqL.of (q.2 _ _ h9o)) (fun i acc H10 x' hx' q=>?_) (fun acc H10 q rp hrp=>?_)
  ·obtain ⟨R10,e10⟩:=q
   rw [List.getElem?_map] at hx'
   cases hc:ys[i]? with
   | none=>rw [hc] at hx'; cases hx'
   | some x=>
    rw [hc] at hx'
    cases hx'
    have hx:=hout x (List.mem_of_getElem? hc)
    obtain ⟨a,ha1,ha2,ha3⟩:=S9.rowAt hx
    have hrw:=F6.rect _ (getD_mem (l:=st') (i:=x) (d:=[]) hx).1
    refine cyes ⟨_,rfl,_,rfl,y,_,_,_,rfl,rfl,SqL.of (e10 _ _ S9.steps),ha2,a,rfl,⟨_,SqL.of (e10 _ _ ha3)⟩,?_⟩
    refine comp_list (K:=K) (a:=a) (xs:=(st'.getD x []).map nI) (fun j' acc H12=>acc=((st'.getD x []).take j').map (fun t=>nI (ys.idxOf t))∧Same H10 H12) (by rw [List.length_map]; exact small1000 (by omega)) ⟨rfl,Same.refl _⟩ (fun j' acc H12 q=>by rw [q.1,List.length_map,List.length_take]; exact Nat.min_le_left _ _)
     (fun j' acc H12 q=>SqL.of (q.2 _ _ (e10 _ _ ha3))) (fun j' acc H12 x' hxj q=>?_) (fun acc H12 q lp hlp=>?_)
    ·obtain ⟨rfl,e12⟩:=q
     rw [List.getElem?_map] at hxj
     cases hc2:(st'.getD x [])[j']? with
     | none=>rw [hc2] at hxj; cases hxj
     | some t=>
      rw [hc2] at hxj
      cases hxj
      have h12o:=e12 _ _ (e10 _ _ h9o)
      refine cyes ⟨_,rfl,.inl ⟨rfl,_,SqL.of h12o⟩,_,rfl,op,_,_,rfl,rfl,hI h12o,hmI (hrw.2 t (List.mem_of_getElem? hc2)),?_,e12⟩
      rw [map_take hc2,idx_cast]
      rfl
    obtain ⟨rfl,e12⟩:=q
    rw [List.length_map,List.take_length]
    have u2:=same_new hlp (.lst ((st'.getD x []).map fun t=>nI (ys.idxOf t)))
    refine ⟨lp,_,rfl,.inl ⟨SqL.of upd_same,fun z hz=>?_⟩⟩
    have u3:=same_new hz (.tup ((st'.getD x []).map fun t=>nI (ys.idxOf t)))
    have u13:=(e12.trans u2).trans u3
    refine ⟨?_,e10.trans u13⟩
    have hrow:(ys.map fun x=>(st'.getD x []).map fun t=>ys.idxOf t)[i]? = some ((st'.getD x []).map fun t=>ys.idxOf t):=by
     rw [List.getElem?_map,hc]
     rfl
    rw [List.take_add_one,hrow]
    refine (R10.keep (Tk.same u13)).snoc ?_
    refine upd_same.trans ?_
    rw [List.map_map]
    rfl
  obtain ⟨R10,e10⟩:=q
  have htl:(ys.map fun x=>(st'.getD x []).map fun t=>ys.idxOf t).take (ys.map nI).length=ys.map fun x=>(st'.getD x []).map fun t=>ys.idxOf t:=List.take_of_length_le (by rw [List.length_map,List.length_map]; exact Nat.le_refl _)
  rw [htl] at R10
  obtain ⟨rr,rfl,r1,r2⟩:=R10.ras
  have u1:=same_new hrp (.lst (rr.map V.ref))
  have h11r:upd H10 rp (.lst (rr.map V.ref)) rp=some (.lst (rr.map V.ref)):=upd_same
  have r2':∀ (i:Nat) a r,rr[i]? = some a→(ys.map fun x=>(st'.getD x []).map fun t=>ys.idxOf t)[i]? = some r→upd H10 rp (.lst (rr.map V.ref)) a=some (.tup (r.map nI)):=fun i a r q1 q2=>u1 _ _ (r2 i a r q1 q2)
  have e11:=e10.trans u1
  generalize upd H10 rp (.lst (rr.map V.ref))=H11 at u1 h11r r2' e11
  have h11o:=e11 _ _ h9o
  refine ⟨_,rfl,_,rfl,.inl ⟨rfl,_,SqL.of h11o⟩,_,rfl,op,_,_,rfl,rfl,hI h11o,hmI F6.beg.1,?_⟩
  refine ⟨_,rfl,eL,rfl,⟨_,SqL.of (e11 _ _ S9.ends)⟩,?_⟩
  refine comp_list (K:=K) (a:=eL) (xs:=es'.map nI) (fun j' acc H12=>acc=(es'.take j').map (fun t=>nI (ys.idxOf t))∧Same H11 H12) (by rw [List.length_map]; exact small1000 (by omega)) ⟨rfl,Same.refl _⟩ (fun j' acc H12 q=>by rw [q.1,List.length_map,List.length_take]; exact Nat.min_le_left _ _)
   (fun j' acc H12 q=>SqL.of (q.2 _ _ (e11 _ _ S9.ends))) (fun j' acc H12 x' hxj q=>?_) (fun acc H12 q lp hlp=>?_)
  ·obtain ⟨rfl,e12⟩:=q
   rw [List.getElem?_map] at hxj
   cases hc2:es'[j']? with
   | none=>rw [hc2] at hxj; cases hxj
   | some t=>
    rw [hc2] at hxj
    cases hxj
    have h12o:=e12 _ _ h11o
    refine cyes ⟨_,rfl,.inl ⟨rfl,_,SqL.of h12o⟩,_,rfl,op,_,_,rfl,rfl,hI h12o,hmI (F6.elt t (List.mem_of_getElem? hc2)),?_,e12⟩
    rw [map_take hc2,idx_cast]
    rfl
  obtain ⟨rfl,e12⟩:=q
  rw [List.length_map,List.take_length]
  have hcast2:(es'.map fun t=>nI (ys.idxOf t))=(es'.map fun t=>((ys.idxOf t:Nat):Int)).map V.int:=by rw [List.map_map]; rfl
  have u2:=same_new hlp (.lst (es'.map fun t=>nI (ys.idxOf t)))
  refine ⟨lp,es'.map fun t=>((ys.idxOf t:Nat):Int),rfl,SqL.of (by rw [← hcast2]; exact upd_same),by rw [List.length_map]; omega,fun ns' sp hpm _ hsp=>?_⟩
  have u3:=same_new hsp (.lst (ns'.map V.int))
  refine ⟨sp,_,rfl,.inl ⟨SqL.of upd_same,fun ep hep=>?_⟩⟩
  have u4:=same_new hep (.tup (ns'.map V.int))
  have u24:=(u2.trans u3).trans u4
  have hns:ns'=(ns'.map Int.toNat).map fun n:Nat=>(n:Int):=by
   rw [List.map_map]
   refine (List.map_id ns').symm.trans (List.map_congr_left fun z hz=>?_)
   obtain ⟨t,_,e⟩:=List.mem_map.mp (hpm.mem_iff.mp hz)
   show z=((z.toNat:Nat):Int)
   omega
  have h14e:upd (upd (upd H12 lp (.lst (es'.map fun t=>nI (ys.idxOf t)))) sp (.lst (ns'.map V.int))) ep (.tup (ns'.map V.int)) ep=some (.tup ((ns'.map Int.toNat).map nI)):=by
   rw [upd_same]
   refine congrArg (fun z=>some (HO.tup z)) ?_
   conv=>lhs; rw [hns]
   rw [List.map_map,List.map_map,List.map_map]
   rfl
  generalize upd (upd (upd H12 lp (.lst (es'.map fun t=>nI (ys.idxOf t)))) sp (.lst (ns'.map V.int))) ep (.tup (ns'.map V.int))=H14 at u4 u24 h14e
  have e14:=e12.trans u24
  refine ⟨_,rfl,rp,_,rfl,.inl ⟨SqL.of (e14 _ _ h11r),fun tp htp=>⟨(by show 4≤sizeLine; decide),fun m' hm'=>?_⟩⟩⟩
  have u5:=same_new htp (.tup (rr.map V.ref))
  have u6:=same_new hm' (.tup [V.str l,V.int (((ys.map fun n:Nat=>(n:Int)).idxOf ((b':Nat):Int):Nat):Int),.ref ep,.ref tp])
  have u56:=u5.trans u6
  have F14:=F6.perm (es2:=ns'.map Int.toNat) hperm fun x=>by
   rw [List.mem_map,List.mem_map]
   constructor
   ·rintro ⟨z,hz,rfl⟩
    obtain ⟨t,ht,e⟩:=List.mem_map.mp (hpm.mem_iff.mp hz)
    exact ⟨t,ht,by rw [← e]; rfl⟩
   ·rintro ⟨t,ht,rfl⟩
    exact ⟨((ys.idxOf t:Nat):Int),hpm.mem_iff.mpr (List.mem_map.mpr ⟨t,ht,rfl⟩),rfl⟩
  have hlen14:(ys.map fun x=>(st'.getD x []).map fun t=>ys.idxOf t).length=st'.length:=by rw [List.length_map,hyl]
  have e914:=(e11.trans e14).trans u56
  refine k m' (ys.idxOf b') (ns'.map Int.toNat) (ys.map fun x=>(st'.getD x []).map fun t=>ys.idxOf t) _ ⟨⟨ep,tp,rr,by rw [upd_same,idx_cast]; rfl,u56 _ _ h14e,u6 _ _ upd_same,r1,fun i a r q1 q2=>u56 _ _ (e14 _ _ (r2' i a r q1 q2))⟩,⟨M.few.1,hll,by rw [hlen14]; omega⟩,F14.beg.1,F14.rect⟩ ⟨?_,by rw [hlen14]; exact hs6⟩ F14.lk (fun b o hb hne=>e914 _ _ (S9.drew b o hb hne)) (S9.flow.same e914)
  rw [List.length_map,hpm.length_eq,List.length_map]
  omega
theorem ok_takes {f:Addr} {fd:FuncData} (F:Fun K "takes" "takes" s_takes f fd) (Z:Blt mg) (C_room_behind:Cal P w K mg base "room_behind" 1 ["machine","room","text"] spRoom):FnOk P w K mg base CX0 2 f fd ["machine","text"] spTakes:=by
 refine F.ok sc_takes (fun vs H Q E h=>?_) (fun cdv A outer s H vs Q E hr h=>?_)
 ·obtain ⟨m,l,b,es,st,t,rfl,_⟩:=h
  rfl
 obtain ⟨m,l,b,es,st,t,rfl,M,ht,k⟩:=h
 refine ⟨_,(pss_one (ps_ret (pe_cmpR (op_inK (K:=K)) (pe_c C_room_behind (hr.mono (by decide)) (pa_cons (pv 0) (pa_cons (pe_ix (ix_tupK (K:=K)) (pv 0) pe_int (fun _ _=>rfl)) (pa_cons (pv 1) pa_nil)))) (pe_ix (ix_tupK (K:=K)) (pv 0) pe_int (fun _ _=>rfl)) (by with_unfolding_all rfl)))),?_⟩
 obtain ⟨e,s',ras,h1,h2,h3,h4,h5⟩:=M.lay
 refine ⟨_,rfl,_,rfl,m,_,_,_,rfl,rfl,SqT.of h1,atI_nat (j:=1) rfl,_,rfl,m,l,b,es,st,b,t,rfl,M,M.beg,ht,?_⟩
 exact ⟨_,rfl,m,_,_,_,rfl,rfl,SqT.of h1,atI_nat (j:=2) rfl,e,_,rfl,.inr (SqT.of h2),rfl,flat_nI es,k⟩
theorem letters_nd {l:Str} {n:Nat} (h:IsLetters l n):l.cps.toList.Nodup:=h.2.1.imp fun h=>Nat.ne_of_lt h
inductive spSomeI (vs:List V) (H:Hp) (Q:VK):Prop
 | mk (p sc:Addr) (h1:vs=[.ref p]) (h2:FlowAt H p sc) (h3:∀ m l b es st H',MachAt H' m l b es st→EsOk es st→l.cps.toList.Nodup→Drew H H' p→FlowAt H' p sc→Q (.ref m) H'):spSomeI vs H Q
def spSome:Sp:=fun vs H Q u3_=>spSomeI vs H Q
theorem ok_law_some {f:Addr} {fd:FuncData} (F:Fun K "_law_some" "_law_some" s_law_some f fd) (Z:Blt mg) (C_law_pick:Cal P w K mg base "_law_pick" 1 ["_law_flow_here","_law_many"] spPick) (C_law_letters:Cal P w K mg base "_law_letters" 2 ["_law_flow_here","_law_many"] spLetters) (C_law_machine:Cal P w K mg base "_law_machine" 2 ["_law_flow_here","_law_letters_here","_law_most"] spMachine) (C_law_rising_machine:Cal P w K mg base "_law_rising_machine" 2 ["_law_flow_here","_law_letters_here","_law_most"] spMachine):FnOk P w K mg base CX0 3 f fd ["_law_flow_here"] spSome:=by
 refine F.ok sc_law_some (fun vs H Q E h=>?_) (fun cdv A outer s H vs Q E hr h=>?_)
 ·obtain ⟨p,sc,rfl,_⟩:=h
  rfl
 obtain ⟨p,sc,rfl,FA,k⟩:=h
 refine ⟨_,(pss_cons (ps_set (i:=1) sc_law_some.nd (by rfl) (Or.inl (by rfl)) (pe_cmpR op_eq (pe_c C_law_pick (hr.mono (by decide)) (pa_cons (pv 0) (pa_cons pe_int pa_nil))) pe_int (nomark _))) 
   (pss_cons (ps_set (i:=2) sc_law_some.nd (by rfl) (Or.inl (by rfl)) (pe_c C_law_letters (hr.mono (by decide)) (pa_cons (pv 0) (pa_cons (pe_op op_add pe_int (pe_c C_law_pick (hr.mono (by decide)) (pa_cons (pv 0) (pa_cons pe_int pa_nil)))) pa_nil)))) 
   (pss_cons (ps_if (pt_truthK (K:=K) (pv 1) (fun _=>rfl)) 
    (pss_one (ps_ret (pe_c C_law_rising_machine (hr.mono (by decide)) (pa_cons (pv 0) (pa_cons (pv 2) (pa_cons pe_int pa_nil)))))) pss_nil) 
   (pss_one (ps_ret (pe_c C_law_machine (hr.mono (by decide)) (pa_cons (pv 0) (pa_cons (pv 2) (pa_cons pe_int pa_nil))))))))),?_⟩
 refine (let zz0:TS:=_; let zz1:TS:=tSeq _ zz0; let zz2:TS:=tSeq _ zz1; (?_:tSeq _ zz2 _ _ _))
 refine ⟨_,rfl,p,sc,3,rfl,by decide,by decide,FA,fun r1 xs1 _ _ hx1=>⟨rfl,?_⟩⟩
 have FA1:=FA.go hx1
 have d1:Drew H (upd H p (.lst xs1)) p:=Drew.upd _
 generalize upd H p (.lst xs1)=H1 at FA1 d1
 refine ⟨_,rfl,_,rfl,p,sc,3,rfl,by decide,by decide,FA1,fun r2 xs2 h20 h21 hx2=>⟨_,_,rfl,rfl,p,sc,1+r2,rfl,by omega,by omega,FA1.go hx2,fun l H3 hl dr3 FA3=>?_⟩⟩
 have d3:=(drew_go d1 (.lst xs2)).trans dr3
 have hll:=len_list l
 have hl0:0 < l.length:=by rw [← hll,hl.1]; omega
 have hl1:l.length≤3:=by rw [← hll,hl.1]; omega
 refine ⟨_,rfl,_,rfl,?_⟩
 refine ite2 (fun _=>?_) (fun _=>?_)
 ·exact ⟨_,rfl,_,rfl,p,sc,l,6,rfl,hl0,hl1,by decide,by decide,FA3,fun m b es st H4 M eo dr4 FA4=>k m l b es st H4 M eo (letters_nd hl) (d3.trans dr4) FA4⟩
 ·exact ⟨_,rfl,_,rfl,p,sc,l,6,rfl,hl0,hl1,by decide,by decide,FA3,fun m b es st H4 M eo dr4 FA4=>k m l b es st H4 M eo (letters_nd hl) (d3.trans dr4) FA4⟩
inductive spNearI (vs:List V) (H:Hp) (Q:VK):Prop
 | mk (p sc m:Addr) (l:Str) (b:Nat) (es:List Nat) (st:List (List Nat)) (h1:vs=[.ref p,.ref m]) (h2:MachAt H m l b es st) (h3:EsOk es st) (h4:FlowAt H p sc) (h5:∀ m' b' es' st' H',MachAt H' m' l b' es' st'→es'.length≤100→st'.length≤6→Drew H H' p→FlowAt H' p sc→Q (.ref m') H'):spNearI vs H Q
def spNear:Sp:=fun vs H Q u3_=>spNearI vs H Q
theorem cut_take (xs:List V) (k:Nat):cutV xs none (some ((k:Nat):Int))=xs.take k:=by
 unfold cutV
 rw [HT.sIx_nat,HT.sIx_none,List.drop_zero,Nat.sub_zero]
 rcases Nat.lt_or_ge k xs.length with z | z
 ·rw [Nat.min_eq_left (by omega)]
 ·rw [Nat.min_eq_right z,List.take_of_length_le z,List.take_length]
theorem cut_drop (xs:List V) (k:Nat) (h:k≤xs.length):cutV xs (some ((k:Nat):Int)) none=xs.drop k:=by
 unfold cutV
 rw [HT.sIx_nat,HT.sIx_none,Nat.min_eq_left h,List.take_of_length_le (by rw [List.length_drop]; exact Nat.le_refl _)]
theorem ok_law_near {f:Addr} {fd:FuncData} (F:Fun K "_law_near" "_law_near" s_law_near f fd) (Z:Blt mg) (C_law_pick:Cal P w K mg base "_law_pick" 1 ["_law_flow_here","_law_many"] spPick) (C_law_machine:Cal P w K mg base "_law_machine" 2 ["_law_flow_here","_law_letters_here","_law_most"] spMachine) (C_law_least:Cal P w K mg base "_law_least" 1 ["_law_machine_here"] spLLeast) (C_law_same_otherwise:Cal P w K mg base "_law_same_otherwise" 2 ["_law_flow_here","_law_machine_here","_law_most"] spOther):FnOk P w K mg base CX0 3 f fd ["_law_flow_here","_law_machine_here"] spNear:=by
 refine F.ok sc_law_near (fun vs H Q E h=>?_) (fun cdv A outer s H vs Q E hr h=>?_)
 ·obtain ⟨p,sc,m,l,b,es,st,rfl,_⟩:=h
  rfl
 obtain ⟨p,sc,m,l,b,es,st,rfl,M,EO,FA,k⟩:=h
 refine ⟨_,(pss_cons (ps_set (i:=2) sc_law_near.nd (by rfl) (Or.inl (by rfl)) (pe_c C_law_pick (hr.mono (by decide)) (pa_cons (pv 0) (pa_cons pe_int pa_nil)))) 
   (pss_cons (ps_asg (pv 1) (pg_tupK (K:=K) (n:=4) (by rfl) (pgs_cons (pg_name (i:=3) sc_law_near.nd (by rfl) (Or.inl (by rfl))) (pgs_cons (pg_name (i:=4) sc_law_near.nd (by rfl) (Or.inl (by rfl))) (pgs_cons (pg_name (i:=5) sc_law_near.nd (by rfl) (Or.inl (by rfl))) (pgs_cons (pg_name (i:=6) sc_law_near.nd (by rfl) (Or.inl (by rfl))) pgs_nil)))))) 
   (pss_cons (ps_if (pt_cmpR op_eq (pv 2) pe_int (nomark _)) 
    (pss_one (ps_ret (pe_c C_law_machine (hr.mono (by decide)) (pa_cons (pv 0) (pa_cons (pv 3) (pa_cons pe_int pa_nil)))))) pss_nil) 
   (pss_cons (ps_if (pt_cmpR op_eq (pv 2) pe_int (nomark _)) 
    (pss_one (ps_ret (pe_c C_law_least (hr.mono (by decide)) (pa_cons (pv 1) pa_nil)))) pss_nil) 
   (pss_cons (ps_set (i:=7) sc_law_near.nd (by rfl) (Or.inr (by rfl)) (pe_c C_law_same_otherwise (hr.mono (by decide)) (pa_cons (pv 0) (pa_cons (pv 1) (pa_cons pe_int pa_nil))))) 
   (pss_cons (ps_if (pt_cmpR op_eq (pv 2) pe_int (nomark _)) 
    (pss_one (ps_ret (pv 7))) pss_nil) 
   (pss_cons (ps_set (i:=8) sc_law_near.nd (by rfl) (Or.inr (by rfl)) (pe_c C_law_pick (hr.mono (by decide)) (pa_cons (pv 0) (pa_cons (pe_callB (call_lenK (K:=K)) (by rfl) Z.len bt_len (pa_cons (pe_ix (ix_tupK (K:=K)) (pv 7) pe_int (fun _ _=>rfl)) pa_nil)) pa_nil)))) 
   (pss_cons (ps_if (pt_cmpR op_lt (pv 2) pe_int (nomark _)) 
    (pss_cons (ps_setc (i:=9) sc_law_near.nd (by rfl) (by rfl) (sc:=defScope s_law_near) (Nm:=["_law_flow_here","_law_machine_here","_law_way","_law_letters_here","_law_begin","_law_ends","_law_steps","_law_other","_law_at","_law_some_here","_law_row"]) (own:=["_law_room"]) (fr:=[7,8]) ⟨rfl,by decide +kernel,by decide +kernel,by decide +kernel,by decide +kernel⟩ (by rfl) (gfr_name (by decide)) (pi_range1 (by rfl) Z.range (pa_cons (pe_callB (call_lenK (K:=K)) (by rfl) Z.len bt_len (pa_cons (pe_ix (ix_tupK (K:=K)) (pv 7) pe_int (fun _ _=>rfl)) pa_nil)) pa_nil)) (fun d=>(pg_name (i:=0) nd_law_near_0 (by rfl) (Or.inl (by rfl)))) (fun d=>(pts_one (pt_cmpR op_ne (pe_cmpR (op_inK (K:=K)) (pv 0) (pe_ix (ix_tupK (K:=K)) (pv 1) pe_int (fun _ _=>rfl)) (by with_unfolding_all rfl)) (pe_cmpR op_eq (pv 0) (pv 2) (nomark _)) (nomark _)))) (fun d=>(pv 0))) 
    (pss_one (ps_ret (pe_op (op_catG (K:=K)) (pe_slice (sl_tupG (K:=K)) (pv 7) po_none (po_some pe_int)) (pe_tup (pa_cons (pe_callTy (call_tupK (K:=K)) (by rfl) Z.tuple bt_tuple (pa_cons (pv 9) pa_nil)) (pa_cons (pe_ix (ix_tupK (K:=K)) (pv 7) pe_int (fun _ _=>rfl)) pa_nil))))))) pss_nil) 
   (pss_cons (ps_set (i:=10) sc_law_near.nd (by rfl) (Or.inl (by rfl)) (pe_callTy (call_listK (K:=K)) (by rfl) Z.list bt_list (pa_cons (pe_ix (ix_tupK (K:=K)) (pe_ix (ix_tupK (K:=K)) (pv 7) pe_int (fun _ _=>rfl)) (pv 8) (fun _ _=>rfl)) pa_nil))) 
   (pss_cons (ps_asg (pe_c C_law_pick (hr.mono (by decide)) (pa_cons (pv 0) (pa_cons (pe_callB (call_lenK (K:=K)) (by rfl) Z.len bt_len (pa_cons (pe_ix (ix_tupK (K:=K)) (pv 7) pe_int (fun _ _=>rfl)) pa_nil)) pa_nil))) (pg_sub (pv 10) (pe_c C_law_pick (hr.mono (by decide)) (pa_cons (pv 0) (pa_cons (pe_callB (call_lenK (K:=K)) (by rfl) Z.len bt_len (pa_cons (pv 10) pa_nil)) pa_nil))) set_list)) 
   (pss_one (ps_ret (pe_op (op_catG (K:=K)) (pe_slice (sl_tupG (K:=K)) (pv 7) po_none (po_some pe_int)) (pe_tup (pa_cons (pe_op (op_catG (K:=K)) (pe_op (op_catG (K:=K)) (pe_slice (sl_tupG (K:=K)) (pe_ix (ix_tupK (K:=K)) (pv 7) pe_int (fun _ _=>rfl)) po_none (po_some (pv 8))) (pe_tup (pa_cons (pe_callTy (call_tupK (K:=K)) (by rfl) Z.tuple bt_tuple (pa_cons (pv 10) pa_nil)) pa_nil))) (pe_slice (sl_tupG (K:=K)) (pe_ix (ix_tupK (K:=K)) (pv 7) pe_int (fun _ _=>rfl)) (po_some (pe_op op_add (pv 8) pe_int)) po_none)) pa_nil))))))))))))))),?_⟩
 refine (let zz0:TS:=_; let zz1:TS:=tSeq _ zz0; let zz2:TS:=tSeq _ zz1; let zz3:TS:=_; let zz4:TS:=tSeq _ zz3; let zz5:TS:=tSeq (tIfS _ zz4 _) zz2; let zz6:TS:=tSeq _ zz5; let zz7:TS:=tSeq _ zz6; let zz8:TS:=tSeq _ zz7; let zz9:TS:=tSeq _ zz8; let zz10:TS:=tSeq _ zz9; let zz11:TS:=tSeq _ zz10; (?_:tSeq _ zz11 _ _ _))
 have hll:=M.few.2.1
 have hst:=EO.2.2
 have hrect:Rect st l.length:=M.rows
 refine ⟨_,rfl,p,sc,6,rfl,by decide,by decide,FA,fun wy xs0 _ _ hx0=>?_⟩
 have FA1:=FA.go hx0
 have d1:Drew H (upd H p (.lst xs0)) p:=Drew.upd _
 have M1:=M.keep (Tk.drew FA d1)
 generalize upd H p (.lst xs0)=H1 at FA1 d1 M1
 obtain ⟨eA,sA,ra0,h1,h2,h3,h4,h5⟩:=M1.lay
 refine ⟨_,rfl,m,_,rfl,SqT.of h1,rfl,_,_,rfl,_,_,rfl,_,_,rfl,_,_,rfl,rfl,?_⟩
 refine ⟨_,rfl,rfl,_,rfl,?_⟩
 refine ite2 (fun _=>?_) (fun _=>?_)
 ·exact ⟨_,rfl,_,rfl,p,sc,l,6,rfl,M.few.1,hll,by decide,by decide,FA1,fun m' b' es' st' H2 M2 eo2 dr2 FA2=>k m' b' es' st' H2 M2 (by have:=eo2.1; omega) eo2.2.2 (d1.trans dr2) FA2⟩
 refine ⟨_,rfl,rfl,_,rfl,?_⟩
 refine ite2 (fun _=>?_) (fun _=>?_)
 ·refine ⟨_,rfl,m,l,b,es,st,rfl,M1,by have:=EO.1; omega,fun m' Sx N H2 e2 hS hN h6 hL=>?_⟩
  have W:=wk_law hrect hS
  have hrows:(rowsK (fun x=>Sx.getD x 0) (fun x=>st.getD x []) (lwO Sx st b N)).length=(lwO Sx st b N).length:=by unfold rowsK; rw [List.length_map]
  have hpos:0 < (lwO Sx st b N).length:=(ordK_pos (k:=fun x=>Sx.getD x 0) (T:=fun x=>st.getD x []) (b:=b) N).1
  have hel:(endsK (lwO Sx st b N) fun x=>decide (x∈es)).length≤(lwO Sx st b N).length:=by
   unfold endsK
   exact Nat.le_trans (List.length_filter_le _ _) (by rw [List.length_range]; exact Nat.le_refl _)
  exact k m' 0 _ _ H2 ⟨hL,⟨M.few.1,hll,by omega⟩,by omega,W.rect M.beg hN⟩ (by omega) (by omega) (d1.trans (Drew.same e2)) (FA1.same e2)
 refine ⟨_,rfl,_,rfl,p,sc,m,l,b,es,st,rfl,M1,EO,FA1,fun m4 b4 es4 st4 H2 M4 he4 lk4 dr2 FA2=>?_⟩
 clear lk4 h1 h2 h3 h4 h5
 have d2:=d1.trans dr2
 obtain ⟨he4,hs4⟩:=he4
 obtain ⟨eB,sB,rB,g1,g2,g3,g4,g5⟩:=M4.lay
 have hrect4:Rect st4 l.length:=M4.rows
 have hb4:=M4.beg
 have hrl:(rB.map V.ref).length=st4.length:=by rw [List.length_map,g4]
 refine ⟨_,rfl,rfl,_,rfl,?_⟩
 refine ite2 (fun _=>?_) (fun _=>?_)
 ·exact ⟨_,rfl,k m4 b4 es4 st4 H2 M4 he4 hs4 d2 FA2⟩
 refine ⟨_,rfl,_,rfl,m4,_,_,_,rfl,rfl,SqT.of g1,atI_nat (j:=3) rfl,sB,_,rfl,.inr (SqT.of g3),p,sc,_,rfl,by omega,by omega,FA2,fun at_ xs3 ha0 ha1 hx3=>?_⟩
 have FA3:=FA2.go hx3
 have t3:=Tk.drew FA2 (Drew.upd (.lst xs3))
 have d3:=drew_go d2 (.lst xs3)
 generalize upd H2 p (.lst xs3)=H3 at FA3 t3 d3
 have q1:=t3 _ _ g1
 have q2:=t3 _ _ g2
 have q3:=t3 _ _ g3
 have q5:∀ (i:Nat) a r,rB[i]? = some a→st4[i]? = some r→H3 a=some (.tup (r.map nI)):=fun i a r z1 z2=>t3 _ _ (g5 i a r z1 z2)
 rw [hrl] at ha1
 refine ⟨_,rfl,_,_,rfl,rfl,_,rfl,?_⟩
 refine ite2 (fun _=>?_) (fun _=>?_)
 ·-- the ends otherwise
  refine ⟨_,rfl,m4,_,_,_,rfl,rfl,SqT.of q1,atI_nat (j:=3) rfl,sB,_,rfl,.inr (SqT.of q3),_,rfl,by omega,by omega,?_⟩
  refine comp_range (lo:=0) (k:=((((rB.map V.ref).length:Nat):Int)).toNat) (fun i acc H4=>∃ e':List Nat,acc=e'.map nI∧e'.length≤i∧Same H3 H4) (Nat.lt_of_le_of_lt (show _≤6 by omega) (by decide)) ⟨[],rfl,Nat.le_refl _,Same.refl _⟩
   (fun i acc H4 ⟨e',e,hl,_⟩=>by rw [e,List.length_map]; exact hl) (fun i acc H4 hi p=>?_) (fun acc H4 p y hy=>?_)
  ·obtain ⟨e',rfl,hel,e4⟩:=p
   refine ⟨_,rfl,_,rfl,m4,_,_,_,rfl,rfl,SqT.of (e4 _ _ q1),atI_nat (j:=2) rfl,eB,_,rfl,.inr (SqT.of (e4 _ _ q2)),rfl,flat_nI es4,_,rfl,_,rfl,rfl,rfl,_,rfl,?_⟩
   refine ite2 (fun _=>⟨_,rfl,e' ++ [i],by rw [e_nI,map_snoc],by rw [List.length_append]; show e'.length+1≤_; omega,e4⟩) (fun _=>⟨e',rfl,by omega,e4⟩)
  obtain ⟨e',rfl,hel,e4⟩:=p
  have s5:=same_new hy (.lst (e'.map nI))
  have h5y:upd H4 y (.lst (e'.map nI)) y=some (.lst (e'.map nI)):=upd_same
  generalize upd H4 y (.lst (e'.map nI))=H5 at s5 h5y
  have e35:=e4.trans s5
  refine ⟨_,rfl,_,rfl,m4,_,rfl,e35 _ _ q1,fun c2 H6 e6 h6=>?_⟩
  have h6':H6 c2=some (.tup [V.str l,nI b4]):=h6
  refine ⟨_,rfl,y,_,rfl,.inl ⟨SqL.of (e6 _ _ h5y),fun ep hep=>?_⟩⟩
  have s7:=same_new hep (.tup (e'.map nI))
  have h7e:upd H6 ep (.tup (e'.map nI)) ep=some (.tup (e'.map nI)):=upd_same
  generalize upd H6 ep (.tup (e'.map nI))=H7 at s7 h7e
  have e37:=(e35.trans e6).trans s7
  refine ⟨_,rfl,m4,_,_,_,rfl,rfl,SqT.of (e37 _ _ q1),atI_nat (j:=3) rfl,(by show 2≤sizeLine; decide),fun c3 hc3=>?_⟩
  have s8:=same_new hc3 (.tup [V.ref ep,V.ref sB])
  refine ⟨c2,c3,_,_,rfl,rfl,s8 _ _ (s7 _ _ h6'),upd_same,(by show 2+2≤1000; decide),fun m' H9 e9 h9=>?_⟩
  have e39:=(e37.trans s8).trans e9
  refine k m' b4 e' st4 H9 ⟨⟨ep,sB,rB,h9,e9 _ _ (s8 _ _ h7e),e39 _ _ q3,g4,fun i a r z1 z2=>e39 _ _ (q5 i a r z1 z2)⟩,M4.few,hb4,hrect4⟩ (by omega) hs4 (d3.trans (Drew.same e39)) (FA3.same e39)
 ·-- one step otherwise
  have han:at_.toNat < st4.length:=by omega
  obtain ⟨hrm,hri⟩:=getD_mem (l:=st4) (i:=at_.toNat) (d:=[]) han
  have hrw:=hrect4 _ hrm
  have hra:at_.toNat < rB.length:=by omega
  have hat:atI (rB.map V.ref) at_=some (.ref rB[at_.toNat]):=by
   have:atI (rB.map V.ref) ((at_.toNat:Nat):Int)=some (.ref rB[at_.toNat]):=atI_nat (by rw [List.getElem?_map,List.getElem?_eq_getElem hra]; rfl)
   rwa [show ((at_.toNat:Nat):Int)=at_ by omega] at this
  have hrow:=q5 at_.toNat _ _ (List.getElem?_eq_getElem hra) hri
  refine ⟨_,rfl,m4,_,_,_,rfl,rfl,SqT.of q1,atI_nat (j:=3) rfl,_,rfl,sB,_,_,_,rfl,rfl,SqT.of q3,hat,_,_,rfl,.inr (SqT.of hrow),fun rp hrp=>?_⟩
  have s4:=same_new hrp (.lst ((st4.getD at_.toNat []).map nI))
  have h4r:upd H3 rp (.lst ((st4.getD at_.toNat []).map nI)) rp=some (.lst ((st4.getD at_.toNat []).map nI)):=upd_same
  have FA4:=FA3.same s4
  have npr:p≠rp:=by
   obtain ⟨ys,z1,_⟩:=FA3.here
   exact ne_of_none z1 hrp
  have nsr:sc≠rp:=by
   obtain ⟨ys,z1⟩:=FA3.cells
   exact ne_of_none z1 hrp
  have hfr:∀ b' o',H b'=some o'→b'≠p→b'≠rp:=fun b' o' z1 z2=>ne_of_none (d3 b' o' z1 z2) hrp
  generalize upd H3 rp (.lst ((st4.getD at_.toNat []).map nI))=H4 at s4 h4r FA4
  have q1':=s4 _ _ q1
  have q3':=s4 _ _ q3
  refine ⟨_,rfl,_,rfl,m4,_,_,_,rfl,rfl,SqT.of q1',atI_nat (j:=3) rfl,sB,_,rfl,.inr (SqT.of q3'),p,sc,_,rfl,by omega,by omega,FA4,fun nv xs5 hn0 hn1 hx5=>?_⟩
  rw [hrl] at hn1
  have FA5:=FA4.go hx5
  have h5r:upd H4 p (.lst xs5) rp=some (.lst ((st4.getD at_.toNat []).map nI)):=(upd_ne npr.symm).trans h4r
  have t5:=Tk.drew FA4 (Drew.upd (.lst xs5))
  have d5:Drew H (upd H4 p (.lst xs5)) p:=drew_go (d3.trans (Drew.same s4)) _
  generalize upd H4 p (.lst xs5)=H5 at FA5 h5r t5 d5
  have hrlen:((st4.getD at_.toNat []).map nI).length=l.length:=by rw [List.length_map]; exact hrw.1
  refine ⟨_,rfl,_,rfl,_,rfl,rp,_,rfl,.inl (SqL.of h5r),p,sc,_,rfl,by rw [hrlen]; have:=M.few.1; omega,by rw [hrlen]; omega,FA5,fun pv xs6 hp0 hp1 hx6=>?_⟩
  rw [hrlen] at hp1
  have FA6:=FA5.go hx6
  have h6r:upd H5 p (.lst xs6) rp=some (.lst ((st4.getD at_.toNat []).map nI)):=(upd_ne npr.symm).trans h5r
  have t6:=Tk.drew FA5 (Drew.upd (.lst xs6))
  have d6:=drew_go d5 (.lst xs6)
  generalize upd H5 p (.lst xs6)=H6 at FA6 h6r t6 d6
  have hpv:ixN ((st4.getD at_.toNat []).map nI).length pv=some pv.toNat:=by
   have:=ixN_nat (n:=((st4.getD at_.toNat []).map nI).length) (j:=pv.toNat) (by omega)
   rwa [show ((pv.toNat:Nat):Int)=pv by omega] at this
  refine ⟨rp,_,_,_,rfl,rfl,h6r,hpv,?_⟩
  rw [nI_of hn0,← List.map_set]
  have t7:=Tk.lst h6r (.lst (((st4.getD at_.toNat []).set pv.toNat nv.toNat).map nI))
  have h7r:upd H6 rp (.lst (((st4.getD at_.toNat []).set pv.toNat nv.toNat).map nI)) rp=some (.lst (((st4.getD at_.toNat []).set pv.toNat nv.toNat).map nI)):=upd_same
  have FA7:=flow_store (o:=.lst (((st4.getD at_.toNat []).set pv.toNat nv.toNat).map nI)) FA6 npr nsr
  have d7:Drew H (upd H6 rp (.lst (((st4.getD at_.toNat []).set pv.toNat nv.toNat).map nI))) p:=fun b' o' z1 z2=>by
   rw [upd_ne (hfr b' o' z1 z2)]
   exact d6 b' o' z1 z2
  generalize upd H6 rp (.lst (((st4.getD at_.toNat []).set pv.toNat nv.toNat).map nI))=H7 at t7 h7r FA7 d7
  have t37:=(((Tk.same s4).trans t5).trans t6).trans t7
  have w1:=t37 _ _ q1
  have w3:=t37 _ _ q3
  refine ⟨_,rfl,_,rfl,m4,_,rfl,w1,fun c1 H8 e8 h8=>?_⟩
  have h8':H8 c1=some (.tup [V.str l,nI b4,V.ref eB]):=h8
  refine ⟨_,rfl,m4,_,_,_,rfl,rfl,SqT.of (e8 _ _ w1),atI_nat (j:=3) rfl,_,rfl,_,rfl,sB,_,rfl,e8 _ _ w3,fun c2 H9 e9 h9=>?_⟩
  refine ⟨_,rfl,rp,_,rfl,.inl ⟨SqL.of (e9 _ _ (e8 _ _ h7r)),fun tp htp=>?_⟩⟩
  have s10:=same_new htp (.tup (((st4.getD at_.toNat []).set pv.toNat nv.toNat).map nI))
  have h10t:upd H9 tp (.tup (((st4.getD at_.toNat []).set pv.toNat nv.toNat).map nI)) tp=some (.tup (((st4.getD at_.toNat []).set pv.toNat nv.toNat).map nI)):=upd_same
  generalize upd H9 tp (.tup (((st4.getD at_.toNat []).set pv.toNat nv.toNat).map nI))=H10 at s10 h10t
  refine ⟨(by show 1≤sizeLine; decide),fun c3 hc3=>?_⟩
  have s11:=same_new hc3 (.tup [V.ref tp])
  have h11c:upd H10 c3 (.tup [V.ref tp]) c3=some (.tup [V.ref tp]):=upd_same
  generalize upd H10 c3 (.tup [V.ref tp])=H11 at s11 h11c
  have e911:=s10.trans s11
  have ct:cutV (rB.map V.ref) none (some at_)=(rB.take at_.toNat).map V.ref:=by
   have:=cut_take (rB.map V.ref) at_.toNat
   rwa [show ((at_.toNat:Nat):Int)=at_ by omega,← List.map_take] at this
  rw [ct] at h9
  have hcl:((rB.take at_.toNat).map V.ref).length≤6:=by rw [List.length_map,List.length_take]; omega
  refine ⟨c2,c3,_,_,rfl,rfl,e911 _ _ h9,h11c,by show _+1≤1000; omega,fun c4 H12 e12 h12=>?_⟩
  have e712:=((e8.trans e9).trans e911).trans e12
  refine ⟨_,rfl,m4,_,_,_,rfl,rfl,SqT.of (e712 _ _ w1),atI_nat (j:=3) rfl,_,rfl,_,_,rfl,rfl,_,rfl,sB,_,rfl,e712 _ _ w3,fun c5 H13 e13 h13=>?_⟩
  have cd:cutV (rB.map V.ref) (some (at_+1)) none=(rB.drop (at_.toNat+1)).map V.ref:=by
   have:=cut_drop (rB.map V.ref) (at_.toNat+1) (by rw [List.length_map]; omega)
   rwa [show (((at_.toNat+1:Nat):Nat):Int)=at_+1 by omega,← List.map_drop] at this
  rw [cd] at h13
  have hdl:((rB.drop (at_.toNat+1)).map V.ref).length≤6:=by rw [List.length_map,List.length_drop]; omega
  refine ⟨c4,c5,_,_,rfl,rfl,e13 _ _ h12,h13,by rw [List.length_append]; show _+1+_≤1000; omega,fun c6 H14 e14 h14=>?_⟩
  refine ⟨(by show 1≤sizeLine; decide),fun c7 hc7=>?_⟩
  have s15:=same_new hc7 (.tup [V.ref c6])
  have h15:upd H14 c7 (.tup [V.ref c6]) c7=some (.tup [V.ref c6]):=upd_same
  generalize upd H14 c7 (.tup [V.ref c6])=H15 at s15 h15
  have e715:=((e712.trans e13).trans e14).trans s15
  have e815:=(((e9.trans e911).trans e12).trans e13).trans (e14.trans s15)
  refine ⟨c1,c7,_,_,rfl,rfl,e815 _ _ h8',h15,(by show 3+1≤1000; decide),fun m' H16 e16 h16=>?_⟩
  have e716:=e715.trans e16
  have hset:(rB.take at_.toNat).map V.ref ++ [V.ref tp] ++ (rB.drop (at_.toNat+1)).map V.ref=(rB.set at_.toNat tp).map V.ref:=by
   rw [List.set_eq_take_append_cons_drop,if_pos hra,List.map_append,List.map_cons,List.append_assoc]
   rfl
  rw [hset] at h14
  have h10t16:=e16 _ _ (s15 _ _ (e14 _ _ (e13 _ _ (e12 _ _ (s11 _ _ h10t)))))
  refine k m' b4 es4 (st4.set at_.toNat ((st4.getD at_.toNat []).set pv.toNat nv.toNat)) H16 ⟨⟨eB,c6,rB.set at_.toNat tp,h16,e716 _ _ (t37 _ _ q2),e16 _ _ (s15 _ _ h14),by rw [List.length_set,List.length_set]; exact g4,fun i a r z1 z2=>?_⟩,⟨M.few.1,hll,by rw [List.length_set]; omega⟩,by rw [List.length_set]; exact hb4,fun r hr=>?_⟩ (by omega) (by rw [List.length_set]; exact hs4) (d7.trans (Drew.same e716)) (FA7.same e716)
  ·by_cases c:i=at_.toNat
   ·subst c
    rw [List.getElem?_set_self hra] at z1
    rw [List.getElem?_set_self han] at z2
    cases z1
    cases z2
    exact h10t16
   ·rw [List.getElem?_set_ne (fun z=>c z.symm)] at z1 z2
    exact e716 _ _ (t37 _ _ (q5 i a r z1 z2))
  ·rw [List.length_set]
   rcases List.mem_or_eq_of_mem_set hr with z | z
   ·exact hrect4 r z
   ·rw [z]
    refine ⟨by rw [List.length_set]; exact hrw.1,fun x hx=>?_⟩
    rcases List.mem_or_eq_of_mem_set hx with y | y
    ·exact hrw.2 x y
    ·rw [y]; omega
def dNs (r:List Nat):Dt:=.tup (r.map fun n:Nat=>Dt.int ((n:Nat):Int))
def dMach (l:Str) (b:Nat) (es:List Nat) (st:List (List Nat)):Dt:=.tup [.str l,.int (b:Int),dNs es,.tup (st.map dNs)]
theorem dep_all {α:Type} (f:α→Dt) (n:Nat) (h:∀ x,(f x).dep≤n) (xs:List α):((xs.map f).map Dt.dep).foldr max 0≤n:=by
 induction xs with
 | nil=>exact Nat.zero_le _
 | cons x r ih=>
  rw [List.map_cons,List.map_cons,List.foldr_cons]
  have:=h x
  omega
theorem dNs_dep (r:List Nat):(dNs r).dep≤1:=by
 unfold dNs
 rw [Dt.dep]
 have:=dep_all (fun n:Nat=>Dt.int (n:Int)) 0 (fun x=>by simp [Dt.dep]) r
 omega
theorem dMach_dep (l:Str) (b:Nat) (es:List Nat) (st:List (List Nat)):(dMach l b es st).dep < 4:=by
 unfold dMach
 have h1:=dNs_dep es
 have h2:(Dt.tup (st.map dNs)).dep≤2:=by
  rw [Dt.dep]
  have:=dep_all dNs 1 dNs_dep st
  omega
 rw [Dt.dep]
 simp only [List.map_cons,List.map_nil,List.foldr_cons,List.foldr_nil]
 simp only [Dt.dep] at *
 omega
theorem ns_den {H:Hp} {a:Addr} {r:List Nat} (h:H a=some (.tup (r.map nI))) (hr:r.length≤1000):Den H (.ref a) (dNs r):=by
 refine Den.tup h (by rw [List.length_map]; omega) (by rw [List.length_map,List.length_map]) fun i x d q1 q2=>?_
 rw [List.getElem?_map] at q1 q2
 cases y:r[i]? with
 | none=>rw [y] at q1; cases q1
 | some k=>
  rw [y] at q1 q2
  cases q1
  cases q2
  exact .int _
def GV (H:Hp) (m:Addr) (l:Str) (P:List Nat→Prop) (n:Nat):Prop:=∃ b es st,MachAt H m l b es st∧(∀ cs,(∀ c∈cs,c < l.length)→(wayN st b cs∈es↔P cs))∧es.length≤500∧st.length≤n
def LV (H:Hp) (m:Addr) (l:Str) (P:List Nat→Prop) (n:Nat):Prop:=∃ st es,LM l P st es∧MLay H m l 0 es st∧st.length≤n
theorem GV.keep {H H':Hp} {m:Addr} {l:Str} {P:List Nat→Prop} {n:Nat} (h:GV H m l P n) (k:Tk H H'):GV H' m l P n:=let ⟨b,es,st,M,r⟩:=h; ⟨b,es,st,M.keep k,r⟩
theorem LV.keep {H H':Hp} {m:Addr} {l:Str} {P:List Nat→Prop} {n:Nat} (h:LV H m l P n) (k:Tk H H'):LV H' m l P n:=let ⟨st,es,D,M,r⟩:=h; ⟨st,es,D,M.keep k,r⟩
theorem LV.gv {H:Hp} {m:Addr} {l:Str} {P:List Nat→Prop} {n:Nat} (h:LV H m l P n) (hn:n≤216) (hl:0 < l.length∧l.length≤3):GV H m l P n:=by
 obtain ⟨st,es,D,M,r⟩:=h
 exact ⟨0,es,st,D.mach hl (by omega) M,D.lg,by have:=D.ends.1; omega,r⟩
theorem MLay.den {H:Hp} {m:Addr} {l:Str} {b:Nat} {es:List Nat} {st:List (List Nat)} (h:MLay H m l b es st) (he:es.length≤1000) (hs:st.length≤1000) (hr:∀ r∈st,r.length≤1000):Den H (.ref m) (dMach l b es st):=by
 obtain ⟨e,s,ras,h1,h2,h3,h4,h5⟩:=h
 refine Den.tup h1 (by show 4≤1000000; decide) rfl fun i x d q1 q2=>?_
 match i,q1,q2 with
 | 0,q1,q2=>cases q1; cases q2; exact .str _
 | 1,q1,q2=>cases q1; cases q2; exact .int _
 | 2,q1,q2=>cases q1; cases q2; exact ns_den h2 he
 | 3,q1,q2=>
  cases q1
  cases q2
  refine Den.tup h3 (by rw [List.length_map]; omega) (by rw [List.length_map,List.length_map]; exact h4) fun j x d q1 q2=>?_
  rw [List.getElem?_map] at q1 q2
  cases c1:ras[j]? with
  | none=>rw [c1] at q1; cases q1
  | some a=>
   cases c2:st[j]? with
   | none=>rw [c2] at q2; cases q2
   | some r=>
    rw [c1] at q1
    rw [c2] at q2
    cases q1
    cases q2
    exact ns_den (h5 j a r c1 c2) (hr r (List.mem_of_getElem? c2))
 | i+4,q1,q2=>cases q1
theorem LM.den {l:Str} {P:List Nat→Prop} {st:List (List Nat)} {es:List Nat} (D:LM l P st es) (hl:l.length≤3) (hs:st.length≤216) {H:Hp} {m:Addr} (h:MLay H m l 0 es st):Den H (.ref m) (dMach l 0 es st):=h.den (by have:=D.ends.1; omega) (by omega) fun r hr=>by have:=(D.rect r hr).1; omega
theorem eqD_use {neg:Bool} {H:Hp} {x y:Addr} {l:Str} {P P':List Nat→Prop} {n n':Nat} {Q:VK} (nd:l.cps.toList.Nodup) (hl:l.length≤3) (hx:LV H x l P n) (hy:LV H y l P' n') (hn:n≤216) (q:∀ cs,(∀ c∈cs,c < l.length)→(P cs↔P' cs)) (k:Q (.bl (!neg)) H):rEqD neg (.ref x) (.ref y) H Q:=by
 obtain ⟨s1,e1,D1,M1,r1⟩:=hx
 obtain ⟨s2,e2,D2,M2,r2⟩:=hy
 obtain ⟨rfl,rfl⟩:=D1.uniq nd D2 q
 exact ⟨_,by have:=dMach_dep l 0 e1 s1; unfold dMach at this; omega,D1.den hl (by omega) M1,D2.den hl (by omega) M2,k⟩
structure Ctx2 (Pb Pl:Addr) (H:Hp):Prop where
 b:Tb Pb tabBoth H
 l:Tb Pl tabLeast H
 n:Pb≠Pl
theorem Kp2.tk {Pb Pl:Addr} {H H':Hp} (e:Kp2 Pb Pl H H') (t:Ctx2 Pb Pl H):Tk H H':=fun b ys h=>e b _ (fun z=>by
 obtain ⟨ps,hp,_⟩:=t.b
 rw [z,hp] at h
 cases h) (fun z=>by
 obtain ⟨ps,hp,_⟩:=t.l
 rw [z,hp] at h
 cases h) h
theorem Ctx2.same {Pb Pl:Addr} {H H':Hp} (t:Ctx2 Pb Pl H) (e:Same H H'):Ctx2 Pb Pl H':=⟨t.b.same e,t.l.same e,t.n⟩
theorem Same.kpp {Pb Pl:Addr} {H H':Hp} (e:Same H H'):Kp2 Pb Pl H H':=fun b o _ _ h=>e b o h
def Told2 (Pb Pl:Addr) (l:Str) (P:List Nat→Prop) (n:Nat) (H:Hp) (Q:VK):Prop:=∀ m' H',Kp2 Pb Pl H H'→Ctx2 Pb Pl H'→LV H' m' l P n→Q (.ref m') H'
section
variable {Pb Pl:Addr} {H:Hp} {l:Str} {P P1 P2:List Nat→Prop} {n n1 n2:Nat} {Q:VK} {m m1 m2:Addr}
theorem told_least (T:Ctx2 Pb Pl H) (hn:∀ st:List (List Nat),st.length≤n1→st.length≤n) (k:Told2 Pb Pl l P n H Q) {P0:List Nat→Prop} (q:∀ cs,(∀ c∈cs,c < l.length)→(P0 cs↔P cs)):LeastTold Pl l P0 n1 H Q:=fun m' stD esD H' e T' D hs hL=>
 k m' H' (fun b o _ n2 h=>e b o n2 h) ⟨Tb.sameT T.b T.l T.n e,T',T.n⟩ ⟨stD,esD,D.cong q,hL,hn stD hs⟩
theorem least_use (G:GV H m l P n) (nd:l.cps.toList.Nodup) (T:Ctx2 Pb Pl H) (k:Told2 Pb Pl l P n H Q):spLeastL Pl [.ref m] H Q E0:=by
 obtain ⟨b,es,st,M,lg,he,hs⟩:=G
 exact ⟨m,l,b,es,st,rfl,M,he,nd,T.l,told_least T (fun s h=>by omega) k lg⟩
theorem contr_use (G:GV H m l P n) (nd:l.cps.toList.Nodup) (T:Ctx2 Pb Pl H) (k:Told2 Pb Pl l (fun cs=>¬ P cs) n H Q):spContrL Pl [.ref m] H Q E0:=by
 obtain ⟨b,es,st,M,lg,he,hs⟩:=G
 exact ⟨m,l,b,es,st,rfl,M,he,nd,T.l,told_least T (fun s h=>by omega) k fun cs hc=>not_congr (lg cs hc)⟩
theorem behind_use {t:Str} (G:GV H m l P n) (ht:∀ c∈t.cps.toList,c∈l.cps.toList) (nd:l.cps.toList.Nodup) (T:Ctx2 Pb Pl H) (k:Told2 Pb Pl l (fun cs=>P (tx l t ++ cs)) n H Q):spBehindL Pl [.ref m,.str t] H Q E0:=by
 obtain ⟨b,es,st,M,lg,he,hs⟩:=G
 exact ⟨m,l,b,es,st,t,rfl,M,he,ht,nd,T.l,told_least T (fun s h=>by omega) k fun cs hc=>lg _ (all_app (fx_all ht) hc)⟩
theorem ahead_use {t:Str} (G:GV H m l P n) (ht:∀ c∈t.cps.toList,c∈l.cps.toList) (nd:l.cps.toList.Nodup) (T:Ctx2 Pb Pl H) (k:Told2 Pb Pl l (fun cs=>P (cs ++ tx l t)) n H Q):spAheadL Pl [.ref m,.str t] H Q E0:=by
 obtain ⟨b,es,st,M,lg,he,hs⟩:=G
 exact ⟨m,l,b,es,st,t,rfl,M,he,ht,nd,T.l,told_least T (fun s h=>by omega) k fun cs hc=>lg _ (all_app hc (fx_all ht))⟩
theorem both_use (G1:GV H m1 l P1 n1) (G2:GV H m2 l P2 n2) (hm:n1 * n2≤216) (nd:l.cps.toList.Nodup) (T:Ctx2 Pb Pl H) (k:Told2 Pb Pl l (fun cs=>P1 cs∧P2 cs) (n1 * n2) H Q):spBoth Pb Pl [.ref m1,.ref m2] H Q E0:=by
 obtain ⟨b1,es1,st1,M1,lg1,he1,hs1⟩:=G1
 obtain ⟨b2,es2,st2,M2,lg2,he2,hs2⟩:=G2
 have hmul:st1.length * st2.length≤n1 * n2:=Nat.mul_le_mul hs1 hs2
 exact ⟨m1,m2,l,b1,b2,es1,es2,st1,st2,rfl,M1,M2,by omega,nd,T.b,T.l,T.n,fun m' stD esD H' e tb tl D hs hL=>k m' H' e ⟨tb,tl,T.n⟩ ⟨stD,esD,D.cong fun cs hc=>and_congr (lg1 cs hc) (lg2 cs hc),hL,by omega⟩⟩
theorem either_use (G1:GV H m1 l P1 n1) (G2:GV H m2 l P2 n2) (hm:n1 * n2≤216) (nd:l.cps.toList.Nodup) (T:Ctx2 Pb Pl H) (k:Told2 Pb Pl l (fun cs=>P1 cs∨P2 cs) (n1 * n2) H Q):spEither Pb Pl [.ref m1,.ref m2] H Q E0:=by
 obtain ⟨b1,es1,st1,M1,lg1,he1,hs1⟩:=G1
 obtain ⟨b2,es2,st2,M2,lg2,he2,hs2⟩:=G2
 have hmul:st1.length * st2.length≤n1 * n2:=Nat.mul_le_mul hs1 hs2
 exact ⟨m1,m2,l,b1,b2,es1,es2,st1,st2,rfl,M1,M2,he1,he2,by omega,nd,T.b,T.l,T.n,fun m' stD esD H' e tb tl D hs hL=>k m' H' e ⟨tb,tl,T.n⟩ ⟨stD,esD,D.cong fun cs hc=>or_congr (lg1 cs hc) (lg2 cs hc),hL,by omega⟩⟩
end
def Joins (P:Program) (w:World) (K:PySem.W.Frag) (mg:Str→Option Value) (base:Heap) (Pb Pl:Addr) (f:Addr) (op:Prop→Prop→Prop):Prop:=∃ (fd:FuncData) (ps:List Str) (sp:Sp),FnOk P w K mg base CX0 7 f fd ps sp∧PySem.W.keepIn K (.ref f)=true∧Binds K fd ps []∧
 ∀ {H:Hp} {l:Str} {P1 P2:List Nat→Prop} {n1 n2:Nat} {Q:VK} {m1 m2:Addr},GV H m1 l P1 n1→GV H m2 l P2 n2→n1 * n2≤216→l.cps.toList.Nodup→Ctx2 Pb Pl H→Told2 Pb Pl l (fun cs=>op (P1 cs) (P2 cs)) (n1 * n2) H Q→sp [.ref m1,.ref m2] H Q E0
def Cuts (P:Program) (w:World) (K:PySem.W.Frag) (mg:Str→Option Value) (base:Heap) (Pb Pl:Addr) (f:Addr) (op:List Nat→List Nat→List Nat):Prop:=∃ (fd:FuncData) (ps:List Str) (sp:Sp),FnOk P w K mg base CX0 6 f fd ps sp∧PySem.W.keepIn K (.ref f)=true∧Binds K fd ps []∧
 ∀ {H:Hp} {l t:Str} {P:List Nat→Prop} {n:Nat} {Q:VK} {m:Addr},GV H m l P n→(∀ c∈t.cps.toList,c∈l.cps.toList)→l.cps.toList.Nodup→Ctx2 Pb Pl H→Told2 Pb Pl l (fun cs=>P (op (tx l t) cs)) n H Q→sp [.ref m,.str t] H Q E0
theorem Tb.drew {Pt p sc:Addr} {L:List (Pos × Str)} {H H':Hp} (t:Tb Pt L H) (F:FlowAt H p sc) (d:Drew H H' p):Tb Pt L H':=by
 obtain ⟨ps,h1,h2,h3⟩:=t
 obtain ⟨xs,hp,_⟩:=F.here
 refine ⟨ps,d _ _ h1 (ne_of h1 hp fun z=>nomatch z),h2,fun x hx=>(h3 x hx).imp id fun ⟨c,a,b⟩=>⟨c,a,d _ _ b (ne_of b hp fun z=>nomatch z)⟩⟩
theorem Ctx2.drew {Pb Pl p sc:Addr} {H H':Hp} (t:Ctx2 Pb Pl H) (F:FlowAt H p sc) (d:Drew H H' p):Ctx2 Pb Pl H':=⟨Tb.drew t.b F d,Tb.drew t.l F d,t.n⟩
theorem Kp2.keepT {Pb Pl Pp:Addr} {L:List (Pos × Str)} {H H':Hp} (e:Kp2 Pb Pl H H') (t:Ctx2 Pb Pl H) (n1:Pp≠Pb) (n2:Pp≠Pl) (tp:Tb Pp L H):Tb Pp L H':=by
 obtain ⟨ps,h1,h2,h3⟩:=tp
 obtain ⟨qs,hb,_⟩:=t.b
 obtain ⟨rs,hl,_⟩:=t.l
 exact ⟨ps,e _ _ n1 n2 h1,h2,fun x hx=>(h3 x hx).imp id fun ⟨c,a,b⟩=>⟨c,a,e _ _ (ne_of b hb fun z=>nomatch z) (ne_of b hl fun z=>nomatch z) b⟩⟩
theorem Kp2.keepF {Pb Pl p sc:Addr} {H H':Hp} (e:Kp2 Pb Pl H H') (t:Ctx2 Pb Pl H) (F:FlowAt H p sc):FlowAt H' p sc:=by
 obtain ⟨qs,hb,_⟩:=t.b
 obtain ⟨rs,hl,_⟩:=t.l
 obtain ⟨xs,hp,hx⟩:=F.here
 obtain ⟨ns,hc⟩:=F.cells
 exact ⟨⟨xs,e _ _ (ne_of hp hb fun z=>nomatch z) (ne_of hp hl fun z=>nomatch z) hp,hx⟩,ns,e _ _ (ne_of hc hb fun z=>nomatch z) (ne_of hc hl fun z=>nomatch z) hc⟩
theorem takes_use {H:Hp} {m:Addr} {l t:Str} {P:List Nat→Prop} {n:Nat} {Q:VK} (L:LV H m l P n) (hn:n≤216) (hl:0 < l.length∧l.length≤3) (ht:∀ c∈t.cps.toList,c∈l.cps.toList) (k:∀ b:Bool,(b=true↔P (tx l t))→Q (.bl b) H):spTakes [.ref m,.str t] H Q E0:=by
 obtain ⟨st,es,D,M,r⟩:=L
 refine ⟨m,l,0,es,st,t,rfl,D.mach hl (by omega) M,ht,k _ ?_⟩
 have e:inV (nI (way l st 0 t.cps.toList)) (es.map nI)=decide (way l st 0 t.cps.toList∈es):=inV_nI _ es
 rw [e,decide_eq_true_eq,way_N]
 exact D.lg _ (fx_all ht)
theorem single_list {L:List Nat} (h:L.length=1) (f:Firsts L):L=[0]:=by
 match L,h with
 | [x],_=>
  have:=f.le 0 (by simp)
  have e:x≤0:=this
  rw [show x=0 by omega]
theorem getD_zero (i:Nat):([0]:List Nat).getD i 0=0:=by
 cases i with
 | zero=>rfl
 | succ i=>rfl
theorem fold_zero (n:Nat):(List.replicate n 0).foldl (addK id) [0]=[0]:=by
 induction n with
 | zero=>rfl
 | succ n ih=>
  rw [List.replicate_succ,List.foldl_cons]
  have:addK id [0] 0=[0]:=by
   unfold addK
   rw [if_pos (by simp)]
  rw [this]
  exact ih
theorem lm_none {l:Str} (nd:l.cps.toList.Nodup):LM l (fun _=>False) [List.replicate l.length 0] []:=by
 have hL:∀ k,lkN [List.replicate l.length 0] [] k=[0]:=fun k=>single_list (lkN_len _ _ k) (lkN_firsts _ _ k)
 have hT:∀ x,TL l (gL l [List.replicate l.length 0] [0]) x=List.replicate l.length 0:=fun x=>by
  unfold TL
  have:∀ c,gL l [List.replicate l.length 0] [0] x c=0:=fun c=>getD_zero _
  rw [show gL l [List.replicate l.length 0] [0] x=fun _=>0 from funext this,List.map_const',len_list]
 have ho:ordK id (TL l (gL l [List.replicate l.length 0] [0])) 0 1=[0]:=by
  rw [ordK_succ (x:=0) rfl,hT]
  exact fold_zero l.length
 have p:PRes l [List.replicate l.length 0] [] 0 [List.replicate l.length 0] [] 0 1:=by
  refine ⟨fun r hr=>?_,by show 0 < 1; decide,by rw [hL,hL]; exact Nat.le_refl _,?_,?_,?_⟩
  ·rw [List.mem_singleton.mp hr]
   exact ⟨List.length_replicate,fun x hx=>by rw [(List.mem_replicate.mp hx).2]; show 0 < 1; decide⟩
  ·rw [hL]
   show (ordK id (TL l (gL l [List.replicate l.length 0] [0])) 0 1).length≤1
   rw [ho]
   exact Nat.le_refl _
  ·rw [hL]
   show rowsK id (TL l (gL l [List.replicate l.length 0] [0])) (ordK id (TL l (gL l [List.replicate l.length 0] [0])) 0 1)=_
   rw [ho]
   unfold rowsK
   rw [List.map_cons,List.map_nil,hT,List.map_replicate]
   rfl
  ·rw [hL]
   show endsK (ordK id (TL l (gL l [List.replicate l.length 0] [0])) 0 1) _=_
   rw [ho]
   rfl
 exact (LM.of nd p).1.cong fun cs hc=>⟨fun h=>(List.not_mem_nil h).elim,fun h=>h.elim⟩
theorem rep_zero (n:Nat):(List.replicate n [V.int 0]).flatten=(List.replicate n 0).map nI:=by
 induction n with
 | zero=>rfl
 | succ n ih=>
  rw [List.replicate_succ,List.replicate_succ,List.flatten_cons,List.map_cons,ih]
  rfl
theorem tx_app (l t u:Str):tx l (t ++ u)=tx l t ++ tx l u:=by
 unfold tx
 rw [show (t ++ u).cps.toList=t.cps.toList ++ u.cps.toList from Array.toList_append ..,List.map_append]
theorem tcons_c {v:V} {t:TA} {σ:L2.St} {H:Hp} {Q:List V→Hp→Prop} (h:t σ H fun xs H2=>Q (v :: xs) H2):tCons (tC v) t σ H Q:=h
theorem tnil_i {σ:L2.St} {H:Hp} {Q:List V→Hp→Prop} (h:Q [] H):tNil σ H Q:=h
inductive spJoinedI (Pb:Addr) (Pl:Addr) (vs:List V) (H:Hp) (Q:VK):Prop
 | mk (m1 m2:Addr) (l:Str) (P1 P2:List Nat→Prop) (t:Str) (h1:vs=[.ref m1,.ref m2,.str t]) (h2:GV H m1 l P1 6) (h3:GV H m2 l P2 6) (h4:(0 < l.length∧l.length≤3)) (h5:(∀ c∈t.cps.toList,c∈l.cps.toList)) (h6:l.cps.toList.Nodup) (h7:Ctx2 Pb Pl H) (h8:∀ H',Kp2 Pb Pl H H'→Ctx2 Pb Pl H'→Q (.bl true) H'):spJoinedI Pb Pl vs H Q
def spJoined (Pb Pl:Addr):Sp:=fun vs H Q u3_=>spJoinedI Pb Pl vs H Q
theorem ok_law_joined_right {f:Addr} {fd:FuncData} {Pb Pl:Addr} (F:Fun K "_law_joined_right" "_law_joined_right" s_law_joined_right f fd) (Z:Blt mg) (C_contrary:Cal P w K mg base "contrary" 6 ["machine"] (spContrL Pl)) (C_both:Cal P w K mg base "both" 6 ["one","other"] (spBoth Pb Pl)) (C_either:Cal P w K mg base "either" 7 ["one","other"] (spEither Pb Pl))
  (C_behind:Cal P w K mg base "behind" 6 ["machine","word"] (spBehindL Pl)) (C_ahead:Cal P w K mg base "ahead" 6 ["machine","word"] (spAheadL Pl)):FnOk P w K mg base CX0 8 f fd ["_law_one","_law_other","_law_word_here"] (spJoined Pb Pl):=by
 refine F.ok sc_law_joined_right (fun vs H Q E h=>?_) (fun cdv A outer s H vs Q E hr h=>?_)
 ·obtain ⟨m1,m2,l,P1,P2,t,rfl,_⟩:=h
  rfl
 obtain ⟨m1,m2,l,P1,P2,t,rfl,G1,G2,hl,ht,nd,T,k⟩:=h
 refine ⟨_,(pss_cons (ps_par (i:=3) (j:=4) (by rfl) sc_law_joined_right.nd (by rfl) (by rfl) (by decide) (by rfl) (by rfl) (pa_cons (pe_c C_contrary (hr.mono (by decide)) (pa_cons (pv 0) pa_nil)) (pa_cons (pe_c C_contrary (hr.mono (by decide)) (pa_cons (pv 1) pa_nil)) pa_nil)) (by rfl)) 
   (pss_cons (ps_if (PW.pt (pw_or (pt_cmpR (op_neD (hd_of hr)) (pe_c C_contrary (hr.mono (by decide)) (pa_cons (pe_c C_either (hr.mono (by decide)) (pa_cons (pv 0) (pa_cons (pv 1) pa_nil))) pa_nil)) (pe_c C_both (hr.mono (by decide)) (pa_cons (pv 3) (pa_cons (pv 4) pa_nil))) (nomark _)) (pw_or1 (pt_cmpR (op_neD (hd_of hr)) (pe_c C_contrary (hr.mono (by decide)) (pa_cons (pe_c C_both (hr.mono (by decide)) (pa_cons (pv 0) (pa_cons (pv 1) pa_nil))) pa_nil)) (pe_c C_either (hr.mono (by decide)) (pa_cons (pv 3) (pa_cons (pv 4) pa_nil))) (nomark _))))) 
    (pss_one (ps_ret pe_bl)) pss_nil) 
   (pss_cons (ps_for PassesOwn.never (by rfl) (pi_tupK (K:=K) (pe_tup (pa_cons (pe_glob (v:=.ref C_both.f) (by rfl) C_both.at_ rfl) (pa_cons (pe_glob (v:=.ref C_either.f) (by rfl) C_either.at_ rfl) pa_nil)))) (pg_name (i:=5) sc_law_joined_right.nd (by rfl) (Or.inl (by rfl))) 
    (pss_cons (ps_if (pt_cmpR (op_neD (hd_of hr)) (pe_c C_behind (hr.mono (by decide)) (pa_cons (pe_callF (i:=5) 7 (hr.mono (by decide)) (pa_cons (pv 0) (pa_cons (pv 1) pa_nil))) (pa_cons (pv 2) pa_nil))) (pe_callF (i:=5) 7 (hr.mono (by decide)) (pa_cons (pe_c C_behind (hr.mono (by decide)) (pa_cons (pv 0) (pa_cons (pv 2) pa_nil))) (pa_cons (pe_c C_behind (hr.mono (by decide)) (pa_cons (pv 1) (pa_cons (pv 2) pa_nil))) pa_nil))) (nomark _)) 
     (pss_one (ps_ret pe_bl)) pss_nil) 
    (pss_one (ps_if (pt_cmpR (op_neD (hd_of hr)) (pe_c C_ahead (hr.mono (by decide)) (pa_cons (pe_callF (i:=5) 7 (hr.mono (by decide)) (pa_cons (pv 0) (pa_cons (pv 1) pa_nil))) (pa_cons (pv 2) pa_nil))) (pe_callF (i:=5) 7 (hr.mono (by decide)) (pa_cons (pe_c C_ahead (hr.mono (by decide)) (pa_cons (pv 0) (pa_cons (pv 2) pa_nil))) (pa_cons (pe_c C_ahead (hr.mono (by decide)) (pa_cons (pv 1) (pa_cons (pv 2) pa_nil))) pa_nil))) (nomark _)) 
     (pss_one (ps_ret pe_bl)) pss_nil)))) 
   (pss_one (ps_ret pe_bl))))),?_⟩
 refine (let zz0:TS:=_; let zz1:TS:=_; let zz2:TS:=tSeq _ zz1; let zz3:TS:=tSeq (tFor _ _ zz2) zz0; let zz4:TS:=tSeq _ zz3; (?_:tSeq _ zz4 _ _ _))
 refine ⟨_,rfl,contr_use G1 nd T fun x1 H1 e1 T1 L1=>?_⟩
 have k1:=e1.tk T
 refine ⟨_,rfl,contr_use (G2.keep k1) nd T1 fun x2 H2 e2 T2 L2=>⟨_,_,rfl,?_⟩⟩
 have k2:=e2.tk T1
 have k02:=k1.trans k2
 have L1:=L1.keep k2
 refine ⟨_,rfl,_,rfl,either_use (G1.keep k02) (G2.keep k02) (by decide) nd T2 fun x3 H3 e3 T3 L3=>?_⟩
 have k3:=e3.tk T2
 refine contr_use (L3.gv (by decide) hl) nd T3 fun x4 H4 e4 T4 L4=>?_
 have k4:=k3.trans (e4.tk T3)
 refine ⟨_,rfl,_,rfl,both_use ((L1.keep k4).gv (by decide) hl) ((L2.keep k4).gv (by decide) hl) (by decide) nd T4 fun x5 H5 e5 T5 L5=>?_⟩
 have k5:=e5.tk T4
 refine eqD_use nd hl.2 (L4.keep k5) L5 (by decide) (fun cs hc=>not_or) ⟨_,rfl,iteF ?_⟩
 have k25:=k4.trans k5
 have e25:=(e3.trans e4).trans e5
 have k05:=k02.trans k25
 refine ⟨_,rfl,_,rfl,both_use (G1.keep k05) (G2.keep k05) (by decide) nd T5 fun x6 H6 e6 T6 L6=>?_⟩
 have k6:=e6.tk T5
 refine contr_use (L6.gv (by decide) hl) nd T6 fun x7 H7 e7 T7 L7=>?_
 have k57:=k6.trans (e7.tk T6)
 have k27:=k25.trans k57
 refine ⟨_,rfl,_,rfl,either_use ((L1.keep k27).gv (by decide) hl) ((L2.keep k27).gv (by decide) hl) (by decide) nd T7 fun x8 H8 e8 T8 L8=>?_⟩
 have k8:=e8.tk T7
 refine eqD_use nd hl.2 (L7.keep k8) L8 (by decide) (fun cs hc=>Classical.not_and_iff_not_or_not) ⟨_,rfl,iteF ?_⟩
 have e08:=((e1.trans e2).trans e25).trans ((e6.trans e7).trans e8)
 have J1:Joins P w K mg base Pb Pl C_both.f And:=⟨_,_,_,C_both.ok.mono (by decide),C_both.kp,C_both.b,fun a b c d e g=>both_use a b c d e g⟩
 have J2:Joins P w K mg base Pb Pl C_either.f Or:=⟨_,_,_,C_either.ok,C_either.kp,C_either.b,fun a b c d e g=>either_use a b c d e g⟩
 refine ⟨(by show 2≤sizeLine; decide),fun tp htp=>⟨tp,rfl,⟨_,SqT.of upd_same⟩,?_⟩⟩
 have s9:=same_new htp (.tup [V.ref C_both.f,V.ref C_either.f])
 refine for_tup (K:=K) (a:=tp) (xs:=[V.ref C_both.f,V.ref C_either.f]) (fun j σ Hj=>∃ v5,σ=[some (.ref m1),some (.ref m2),some (.str t),some (.ref x1),some (.ref x2),v5]∧Kp2 Pb Pl H Hj∧Ctx2 Pb Pl Hj∧Hj tp=some (.tup [V.ref C_both.f,V.ref C_either.f])) ⟨none,rfl,e08.trans (Same.kpp s9),T8.same s9,upd_same⟩ (fun j σ Hj _ h=>?_) ?_ ?_
 ·obtain ⟨_,_,_,_,h⟩:=h
  exact SqT.of h
 ·rintro j x σ Hj hx ⟨v5,rfl,ej,Tj,hjt⟩
  have hJ:∃ fj op,x=.ref fj∧Joins P w K mg base Pb Pl fj op:=by
   have:=List.mem_of_getElem? hx
   simp only [List.mem_cons,List.mem_nil_iff,or_false] at this
   rcases this with z | z
   ·exact ⟨_,_,z,J1⟩
   ·exact ⟨_,_,z,J2⟩
  obtain ⟨fj,op,rfl,fdj,psj,spj,Fj,kj,bj,use⟩:=hJ
  have kt:=ej.tk T
  have G1j:=G1.keep kt
  have G2j:=G2.keep kt
  refine ⟨fj,fdj,psj,spj,Fj,kj,bj,rfl,_,rfl,_,rfl,use G1j G2j (by decide) nd Tj fun y1 Ha ea Ta La=>?_⟩
  have ka:=ea.tk Tj
  refine ⟨_,rfl,behind_use (La.gv (by decide) hl) ht nd Ta fun y2 Hb eb Tb' Lb=>?_⟩
  have kb:=ka.trans (eb.tk Ta)
  refine ⟨fj,fdj,psj,spj,Fj,kj,bj,rfl,_,rfl,_,rfl,behind_use (G1j.keep kb) ht nd Tb' fun y3 Hc ec Tc Lc=>?_⟩
  have kc:=ec.tk Tb'
  refine ⟨_,rfl,_,rfl,behind_use ((G2j.keep kb).keep kc) ht nd Tc fun y4 Hd ed Td Ld=>?_⟩
  have kd:=ed.tk Tc
  refine use ((Lc.keep kd).gv (by decide) hl) (Ld.gv (by decide) hl) (by decide) nd Td fun y5 He ee Te Le=>?_
  have ke:=ee.tk Td
  refine eqD_use nd hl.2 (((Lb.keep kc).keep kd).keep ke) Le (by decide) (fun cs hc=>Iff.rfl) ⟨_,rfl,iteF ?_⟩
  have kje:=((kb.trans kc).trans kd).trans ke
  have eje:=(((ea.trans eb).trans ec).trans ed).trans ee
  refine ⟨fj,fdj,psj,spj,Fj,kj,bj,rfl,_,rfl,_,rfl,use (G1j.keep kje) (G2j.keep kje) (by decide) nd Te fun z1 Hf ef Tf Lf=>?_⟩
  have kf:=ef.tk Te
  refine ⟨_,rfl,ahead_use (Lf.gv (by decide) hl) ht nd Tf fun z2 Hg eg Tg Lg=>?_⟩
  have kg:=kf.trans (eg.tk Tf)
  refine ⟨fj,fdj,psj,spj,Fj,kj,bj,rfl,_,rfl,_,rfl,ahead_use ((G1j.keep kje).keep kg) ht nd Tg fun z3 Hh eh Th Lh=>?_⟩
  have kh:=eh.tk Tg
  refine ⟨_,rfl,_,rfl,ahead_use (((G2j.keep kje).keep kg).keep kh) ht nd Th fun z4 Hi ei Ti Li=>?_⟩
  have ki:=ei.tk Th
  refine use ((Lh.keep ki).gv (by decide) hl) (Li.gv (by decide) hl) (by decide) nd Ti fun z5 Hk ek Tk' Lk'=>?_
  have kk:=ek.tk Ti
  refine eqD_use nd hl.2 (((Lg.keep kh).keep ki).keep kk) Lk' (by decide) (fun cs hc=>Iff.rfl) ⟨_,rfl,iteF ?_⟩
  have kall:=kje.trans (((kg.trans kh).trans ki).trans kk)
  exact ⟨_,rfl,((ej.trans eje).trans (((ef.trans eg).trans eh).trans ei)).trans ek,Tk',kall _ _ hjt⟩
 ·rintro σ Hj ⟨v5,rfl,ej,Tj,_⟩
  exact k _ ej Tj
inductive spCutI (Pb:Addr) (Pl:Addr) (vs:List V) (H:Hp) (Q:VK):Prop
 | mk (m:Addr) (l:Str) (b:Nat) (es:List Nat) (st:List (List Nat)) (P:List Nat→Prop) (t u:Str) (h1:vs=[.ref m,.str t,.str u]) (h2:MachAt H m l b es st) (h3:GV H m l P 6) (h4:(∀ c∈t.cps.toList,c∈l.cps.toList)) (h5:(∀ c∈u.cps.toList,c∈l.cps.toList)) (h6:t.length≤100) (h7:u.length≤100) (h8:l.cps.toList.Nodup) (h9:Ctx2 Pb Pl H) (h10:∀ H',Kp2 Pb Pl H H'→Ctx2 Pb Pl H'→Q (.bl true) H'):spCutI Pb Pl vs H Q
def spCut (Pb Pl:Addr):Sp:=fun vs H Q u3_=>spCutI Pb Pl vs H Q
theorem ok_law_cut_right {f:Addr} {fd:FuncData} {Pb Pl:Addr} (F:Fun K "_law_cut_right" "_law_cut_right" s_law_cut_right f fd) (Z:Blt mg) (C_contrary:Cal P w K mg base "contrary" 6 ["machine"] (spContrL Pl)) (C_both:Cal P w K mg base "both" 6 ["one","other"] (spBoth Pb Pl)) (C_either:Cal P w K mg base "either" 7 ["one","other"] (spEither Pb Pl))
  (C_behind:Cal P w K mg base "behind" 6 ["machine","word"] (spBehindL Pl)) (C_ahead:Cal P w K mg base "ahead" 6 ["machine","word"] (spAheadL Pl)):FnOk P w K mg base CX0 8 f fd ["_law_machine_here","_law_word_here","_law_more"] (spCut Pb Pl):=by
 refine F.ok sc_law_cut_right (fun vs H Q E h=>?_) (fun cdv A outer s H vs Q E hr h=>?_)
 ·obtain ⟨m,l,b,es,st,P0,t,u,rfl,_⟩:=h
  rfl
 obtain ⟨m,l,b,es,st,P0,t,u,rfl,M,G,ht,hu,htl,hul,nd,T,k⟩:=h
 refine ⟨_,(pss_cons (ps_if (pt_cmpR (op_neD (hd_of hr)) (pe_c C_behind (hr.mono (by decide)) (pa_cons (pe_c C_behind (hr.mono (by decide)) (pa_cons (pv 0) (pa_cons (pv 1) pa_nil))) (pa_cons (pv 2) pa_nil))) (pe_c C_behind (hr.mono (by decide)) (pa_cons (pv 0) (pa_cons (pe_op op_add_str (pv 1) (pv 2)) pa_nil))) (nomark _)) 
    (pss_one (ps_ret pe_bl)) pss_nil) 
   (pss_cons (ps_if (pt_cmpR (op_neD (hd_of hr)) (pe_c C_ahead (hr.mono (by decide)) (pa_cons (pe_c C_ahead (hr.mono (by decide)) (pa_cons (pv 0) (pa_cons (pv 2) pa_nil))) (pa_cons (pv 1) pa_nil))) (pe_c C_ahead (hr.mono (by decide)) (pa_cons (pv 0) (pa_cons (pe_op op_add_str (pv 1) (pv 2)) pa_nil))) (nomark _)) 
    (pss_one (ps_ret pe_bl)) pss_nil) 
   (pss_cons (ps_if (pt_cmpR (op_neD (hd_of hr)) (pe_c C_behind (hr.mono (by decide)) (pa_cons (pe_c C_ahead (hr.mono (by decide)) (pa_cons (pv 0) (pa_cons (pv 2) pa_nil))) (pa_cons (pv 1) pa_nil))) (pe_c C_ahead (hr.mono (by decide)) (pa_cons (pe_c C_behind (hr.mono (by decide)) (pa_cons (pv 0) (pa_cons (pv 1) pa_nil))) (pa_cons (pv 2) pa_nil))) (nomark _)) 
    (pss_one (ps_ret pe_bl)) pss_nil) 
   (pss_cons (ps_set (i:=3) sc_law_cut_right.nd (by rfl) (Or.inl (by rfl)) (pe_tup (pa_cons (pe_ix (ix_tupK (K:=K)) (pv 0) pe_int (fun _ _=>rfl)) (pa_cons pe_int (pa_cons (pe_tup pa_nil) (pa_cons (pe_tup (pa_cons (pe_op op_repT (pe_tup (pa_cons pe_int pa_nil)) (pe_callB call_len_str (by rfl) Z.len bt_len (pa_cons (pe_ix (ix_tupK (K:=K)) (pv 0) pe_int (fun _ _=>rfl)) pa_nil))) pa_nil)) pa_nil)))))) 
   (pss_one (ps_ret (pe_and (pe_cmpR (op_eqD (hd_of hr)) (pe_c C_both (hr.mono (by decide)) (pa_cons (pv 0) (pa_cons (pe_c C_contrary (hr.mono (by decide)) (pa_cons (pv 0) pa_nil)) pa_nil))) (pv 3) (nomark _)) (pe_one (pe_cmpR (op_eqD (hd_of hr)) (pe_c C_either (hr.mono (by decide)) (pa_cons (pv 0) (pa_cons (pe_c C_contrary (hr.mono (by decide)) (pa_cons (pv 0) pa_nil)) pa_nil))) (pe_c C_contrary (hr.mono (by decide)) (pa_cons (pv 3) pa_nil)) (nomark _)))))))))),?_⟩
 refine (let zz0:TS:=_; let zz1:TS:=tSeq _ zz0; let zz2:TS:=tSeq _ zz1; let zz3:TS:=tSeq _ zz2; (?_:tSeq _ zz3 _ _ _))
 have hl:0 < l.length∧l.length≤3:=⟨M.few.1,M.few.2.1⟩
 have hcat:∀ c∈(t ++ u).cps.toList,c∈l.cps.toList:=fun c hc=>by
  rw [show (t ++ u).cps.toList=t.cps.toList ++ u.cps.toList from Array.toList_append ..] at hc
  exact (List.mem_append.mp hc).elim (ht c) (hu c)
 refine ⟨_,rfl,_,rfl,behind_use G ht nd T fun a1 H1 e1 T1 L1=>?_⟩
 refine ⟨_,rfl,behind_use (L1.gv (by decide) hl) hu nd T1 fun a2 H2 e2 T2 L2=>?_⟩
 have k02:=(e1.tk T).trans (e2.tk T1)
 refine ⟨_,rfl,_,rfl,_,rfl,t,u,rfl,rfl,line_le (by omega),behind_use (G.keep k02) hcat nd T2 fun a3 H3 e3 T3 L3=>?_⟩
 have k3:=e3.tk T2
 refine eqD_use nd hl.2 (L2.keep k3) L3 (by decide) (fun cs hc=>by rw [tx_app,List.append_assoc]) ⟨_,rfl,iteF ?_⟩
 have k03:=k02.trans k3
 have e03:=(e1.trans e2).trans e3
 refine ⟨_,rfl,_,rfl,ahead_use (G.keep k03) hu nd T3 fun b1 H4 e4 T4 L4=>?_⟩
 refine ⟨_,rfl,ahead_use (L4.gv (by decide) hl) ht nd T4 fun b2 H5 e5 T5 L5=>?_⟩
 have k05:=k03.trans ((e4.tk T3).trans (e5.tk T4))
 refine ⟨_,rfl,_,rfl,_,rfl,t,u,rfl,rfl,line_le (by omega),ahead_use (G.keep k05) hcat nd T5 fun b3 H6 e6 T6 L6=>?_⟩
 have k6:=e6.tk T5
 refine eqD_use nd hl.2 (L5.keep k6) L6 (by decide) (fun cs hc=>by rw [tx_app,List.append_assoc]) ⟨_,rfl,iteF ?_⟩
 have k06:=k05.trans k6
 have e06:=e03.trans ((e4.trans e5).trans e6)
 refine ⟨_,rfl,_,rfl,ahead_use (G.keep k06) hu nd T6 fun c1 H7 e7 T7 L7=>?_⟩
 refine ⟨_,rfl,behind_use (L7.gv (by decide) hl) ht nd T7 fun c2 H8 e8 T8 L8=>?_⟩
 have k08:=k06.trans ((e7.tk T6).trans (e8.tk T7))
 refine ⟨_,rfl,_,rfl,behind_use (G.keep k08) ht nd T8 fun c3 H9 e9 T9 L9=>?_⟩
 refine ⟨_,rfl,ahead_use (L9.gv (by decide) hl) hu nd T9 fun c4 H10 e10 T10 L10=>?_⟩
 have k810:=(e9.tk T8).trans (e10.tk T9)
 refine eqD_use nd hl.2 (L8.keep k810) L10 (by decide) (fun cs hc=>by rw [List.append_assoc]) ⟨_,rfl,iteF ?_⟩
 have k010:=k08.trans k810
 have e010:=(e06.trans (e7.trans e8)).trans (e9.trans e10)
 obtain ⟨eA,sA,rA,g1,_⟩:=M.lay
 have g1':=k010 _ _ g1
 refine ⟨_,rfl,m,_,_,_,rfl,rfl,SqT.of g1',atI_nat (j:=0) rfl,(by show 0≤sizeLine; decide),fun d1 hd1=>?_⟩
 have s11:=same_new hd1 (.tup [])
 have h11:upd H10 d1 (.tup []) d1=some (.tup []):=upd_same
 generalize upd H10 d1 (.tup [])=H11 at s11 h11
 refine ⟨(by show 1≤sizeLine; decide),fun d2 hd2=>?_⟩
 have s12:=same_new hd2 (.tup [V.int 0])
 have h12:upd H11 d2 (.tup [V.int 0]) d2=some (.tup [V.int 0]):=upd_same
 generalize upd H11 d2 (.tup [V.int 0])=H12 at s12 h12
 refine ⟨_,rfl,m,_,_,_,rfl,rfl,SqT.of (s12 _ _ (s11 _ _ g1')),atI_nat (j:=0) rfl,l,rfl,line_le (by omega),d2,_,l.length,rfl,rfl,h12,(fun z=>nomatch z),hl.1,by show 1 * l.length≤1000; omega,fun d3 H13 e13 h13=>?_⟩
 rw [rep_zero] at h13
 refine ⟨(by show 1≤sizeLine; decide),fun d4 hd4=>?_⟩
 have s14:=same_new hd4 (.tup [V.ref d3])
 have h14:upd H13 d4 (.tup [V.ref d3]) d4=some (.tup [V.ref d3]):=upd_same
 generalize upd H13 d4 (.tup [V.ref d3])=H14 at s14 h14
 refine ⟨(by show 4≤sizeLine; decide),fun on hon=>?_⟩
 have s15:=same_new hon (.tup [V.str l,V.int 0,.ref d1,.ref d4])
 have h15:upd H14 on (.tup [V.str l,V.int 0,.ref d1,.ref d4]) on=some (.tup [V.str l,V.int 0,.ref d1,.ref d4]):=upd_same
 generalize upd H14 on (.tup [V.str l,V.int 0,.ref d1,.ref d4])=H15 at s15 h15
 have e1015:=(((s11.trans s12).trans e13).trans s14).trans s15
 have Lon:LV H15 on l (fun _=>False) 1:=by
  refine ⟨[List.replicate l.length 0],[],lm_none nd,⟨d1,d4,[d3],h15,?_,s15 _ _ h14,rfl,fun i a r z1 z2=>?_⟩,by show 1≤1; decide⟩
  ·exact s15 _ _ (s14 _ _ (e13 _ _ (s12 _ _ h11)))
  ·cases i with
   | zero=>cases z1; cases z2; exact s15 _ _ (s14 _ _ h13)
   | succ i=>simp at z1
 have T15:=T10.same e1015
 have k015:=k010.trans (Tk.same e1015)
 have e015:=e010.trans (Same.kpp e1015)
 refine ⟨_,rfl,_,rfl,contr_use (G.keep k015) nd T15 fun x1 H16 e16 T16 L16=>?_⟩
 have k16:=e16.tk T15
 refine both_use ((G.keep k015).keep k16) (L16.gv (by decide) hl) (by decide) nd T16 fun x2 H17 e17 T17 L17=>?_
 have k17:=k16.trans (e17.tk T16)
 refine ⟨_,rfl,eqD_use nd hl.2 L17 (Lon.keep k17) (by decide) (fun cs hc=>⟨fun z=>z.2 z.1,fun z=>z.elim⟩) ⟨_,rfl,iteT ?_⟩⟩
 have k017:=k015.trans k17
 refine ⟨_,rfl,_,rfl,contr_use (G.keep k017) nd T17 fun x3 H18 e18 T18 L18=>?_⟩
 have k18:=e18.tk T17
 refine either_use ((G.keep k017).keep k18) (L18.gv (by decide) hl) (by decide) nd T18 fun x4 H19 e19 T19 L19=>?_
 have k19:=k18.trans (e19.tk T18)
 refine ⟨_,rfl,contr_use (((Lon.keep k17).keep k19).gv (by decide) hl) nd T19 fun x5 H20 e20 T20 L20=>?_⟩
 refine eqD_use nd hl.2 (L19.keep (e20.tk T19)) L20 (by decide) (fun cs hc=>⟨fun _ z=>z,fun _=>Classical.em _⟩) (k _ ((e015.trans ((e16.trans e17).trans (e18.trans e19))).trans e20) T20)
inductive spLawTI (K:PySem.W.Frag) (tabs:List (Addr × Addr)) (vs:List V) (H:Hp) (Q:VK):Prop
 | mk (a:Addr) (ns:List Int) (h1:vs=[.ref a]) (h2:SqL K H a (ns.map V.int)) (h3:ns.length≤63) (h4:(∀ q∈tabs,H q.2=some (.tbl #[]))) (h5:∀ H',Q (.bl true) H'):spLawTI K tabs vs H Q
def spLawT (K:PySem.W.Frag) (tabs:List (Addr × Addr)):Sp:=fun vs H Q u3_=>spLawTI K tabs vs H Q
theorem ok_law {f:Addr} {fd:FuncData} {cl cp cb Pl Pp Pb:Addr} (nlp:Pl≠Pp) (nlb:Pl≠Pb) (npb:Pp≠Pb) (F:Fun K "law" "law" s_law f fd) (Z:Blt mg) (C_law_flow:Cal P w K mg base "_law_flow" 1 ["_law_script"] (spFlow K)) (C_law_some:Cal P w K mg base "_law_some" 3 ["_law_flow_here"] spSome) (C_law_near:Cal P w K mg base "_law_near" 3 ["_law_flow_here","_law_machine_here"] spNear) (C_law_word:Cal P w K mg base "_law_word" 2 ["_law_flow_here","_law_letters_here","_law_most"] spWord)
  (C_law_joined_right:Cal P w K mg base "_law_joined_right" 8 ["_law_one","_law_other","_law_word_here"] (spJoined Pb Pl)) (C_law_cut_right:Cal P w K mg base "_law_cut_right" 8 ["_law_machine_here","_law_word_here","_law_more"] (spCut Pb Pl)) (C_least:Cal P w K mg base "least" 5 ["machine"] (spLeastL Pl)) (C_both:Cal P w K mg base "both" 6 ["one","other"] (spBoth Pb Pl)) (C_either:Cal P w K mg base "either" 7 ["one","other"] (spEither Pb Pl))
  (C_parting_text:Cal P w K mg base "parting_text" 5 ["one","other"] (spPart Pp)) (C_takes:Cal P w K mg base "takes" 2 ["machine","text"] spTakes) (C_behind:Cal P w K mg base "behind" 6 ["machine","word"] (spBehindL Pl)) (C_ahead:Cal P w K mg base "ahead" 6 ["machine","word"] (spAheadL Pl)):FnOk P w K mg base CX0 9 f fd ["_law_script"] (spLawT K [(cl,Pl),(cp,Pp),(cb,Pb)]):=by
 refine F.ok sc_law (fun vs H Q E h=>?_) (fun cdv A outer s H vs Q E hr h=>?_)
 ·obtain ⟨a,ns,rfl,_⟩:=h
  rfl
 obtain ⟨a,ns,rfl,hS,h63,hT0,k⟩:=h
 have hTl:H Pl=some (.tbl #[]):=hT0 (cl,Pl) List.mem_cons_self
 have hTp:H Pp=some (.tbl #[]):=hT0 (cp,Pp) (List.mem_cons_of_mem _ List.mem_cons_self)
 have hTb:H Pb=some (.tbl #[]):=hT0 (cb,Pb) (List.mem_cons_of_mem _ (List.mem_cons_of_mem _ List.mem_cons_self))
 refine ⟨_,(pss_cons (ps_set (i:=1) sc_law.nd (by rfl) (Or.inl (by rfl)) (pe_c C_law_flow (hr.mono (by decide)) (pa_cons (pv 0) pa_nil))) 
   (pss_cons (ps_set (i:=2) sc_law.nd (by rfl) (Or.inl (by rfl)) (pe_c C_law_some (hr.mono (by decide)) (pa_cons (pv 1) pa_nil))) 
   (pss_cons (ps_set (i:=3) sc_law.nd (by rfl) (Or.inl (by rfl)) (pe_c C_law_near (hr.mono (by decide)) (pa_cons (pv 1) (pa_cons (pv 2) pa_nil)))) 
   (pss_cons (ps_set (i:=4) sc_law.nd (by rfl) (Or.inl (by rfl)) (pe_c C_law_word (hr.mono (by decide)) (pa_cons (pv 1) (pa_cons (pe_ix (ix_tupK (K:=K)) (pv 2) pe_int (fun _ _=>rfl)) (pa_cons pe_int pa_nil))))) 
   (pss_cons (ps_if (PW.pt (pw_or (pt_not (pt_truthK (K:=K) (pe_c C_law_joined_right (hr.mono (by decide)) (pa_cons (pv 2) (pa_cons (pv 3) (pa_cons (pv 4) pa_nil)))) (fun _=>rfl))) (pw_or1 (pt_not (pt_truthK (K:=K) (pe_c C_law_cut_right (hr.mono (by decide)) (pa_cons (pv 2) (pa_cons (pv 4) (pa_cons (pe_c C_law_word (hr.mono (by decide)) (pa_cons (pv 1) (pa_cons (pe_ix (ix_tupK (K:=K)) (pv 2) pe_int (fun _ _=>rfl)) (pa_cons pe_int pa_nil)))) pa_nil)))) (fun _=>rfl)))))) 
    (pss_one (ps_ret pe_bl)) pss_nil) 
   (pss_cons (ps_if (pt_cmpR (op_neD (hd_of hr)) (pe_c C_least (hr.mono (by decide)) (pa_cons (pv 2) pa_nil)) (pe_c C_both (hr.mono (by decide)) (pa_cons (pv 2) (pa_cons (pe_c C_either (hr.mono (by decide)) (pa_cons (pv 2) (pa_cons (pv 3) pa_nil))) pa_nil))) (nomark _)) 
    (pss_one (ps_ret pe_bl)) pss_nil) 
   (pss_cons (ps_set (i:=5) sc_law.nd (by rfl) (Or.inl (by rfl)) (pe_c C_parting_text (hr.mono (by decide)) (pa_cons (pv 2) (pa_cons (pv 3) pa_nil)))) 
   (pss_cons (ps_if (pt_cmpR op_isN (pv 5) pe_non (nomark _)) 
    (pss_one (ps_ret (pe_cmpR op_eq (pe_ix (ix_tupK (K:=K)) (pv 2) pe_int (fun _ _=>rfl)) (pe_ix (ix_tupK (K:=K)) (pv 3) pe_int (fun _ _=>rfl)) (nomark _)))) pss_nil) 
   (pss_cons (ps_for PassesOwn.never (by rfl) (pi_tupK (K:=K) (pe_tup (pa_cons (pe_glob (v:=.ref C_behind.f) (by rfl) C_behind.at_ rfl) (pa_cons (pe_glob (v:=.ref C_ahead.f) (by rfl) C_ahead.at_ rfl) pa_nil)))) (pg_name (i:=6) sc_law.nd (by rfl) (Or.inl (by rfl))) 
    (pss_one (ps_if (pt_cmpR op_eq (pe_c C_takes (hr.mono (by decide)) (pa_cons (pe_callF (i:=6) 6 (hr.mono (by decide)) (pa_cons (pv 2) (pa_cons (pv 5) pa_nil))) (pa_cons pe_str pa_nil))) (pe_c C_takes (hr.mono (by decide)) (pa_cons (pe_callF (i:=6) 6 (hr.mono (by decide)) (pa_cons (pv 3) (pa_cons (pv 5) pa_nil))) (pa_cons pe_str pa_nil))) (nomark _)) 
     (pss_one (ps_ret pe_bl)) pss_nil))) 
   (pss_one (ps_ret (pe_and (pe_c C_takes (hr.mono (by decide)) (pa_cons (pe_c C_either (hr.mono (by decide)) (pa_cons (pv 2) (pa_cons (pv 3) pa_nil))) (pa_cons (pv 5) pa_nil))) (pe_one (pe_not (pe_c C_takes (hr.mono (by decide)) (pa_cons (pe_c C_both (hr.mono (by decide)) (pa_cons (pv 2) (pa_cons (pv 3) pa_nil))) (pa_cons (pv 5) pa_nil))))))))))))))))),?_⟩
 refine (let zz0:TS:=_; let zz1:TS:=tSeq _ zz0; let zz2:TS:=tSeq _ zz1; let zz3:TS:=tSeq _ zz2; let zz4:TS:=tSeq _ zz3; let zz5:TS:=tSeq _ zz4; let zz6:TS:=tSeq _ zz5; let zz7:TS:=tSeq _ zz6; let zz8:TS:=tSeq _ zz7; (?_:tSeq _ zz8 _ _ _))
 refine ⟨_,rfl,a,ns,rfl,hS,fun p sc H1 hp e1 FA=>?_⟩
 have T1:Ctx2 Pb Pl H1:=⟨Tb.start (e1 _ _ hTb),Tb.start (e1 _ _ hTl),nlb.symm⟩
 have TP1:Tb Pp tabPart H1:=Tb.start (e1 _ _ hTp)
 refine ⟨_,rfl,p,sc,rfl,FA,fun m1 l b1 es1 st1 H2 M1 eo nd d2 FA2=>?_⟩
 have T2:Ctx2 Pb Pl H2:=Ctx2.drew T1 FA d2
 have TP2:=Tb.drew TP1 FA d2
 refine ⟨_,rfl,_,rfl,p,sc,m1,l,b1,es1,st1,rfl,M1,eo,FA2,fun m2 b2 es2 st2 H3 M2 he2 hs2 d3 FA3=>?_⟩
 have T3:Ctx2 Pb Pl H3:=Ctx2.drew T2 FA2 d3
 have TP3:=Tb.drew TP2 FA2 d3
 have M1:=M1.keep (Tk.drew FA2 d3)
 have hl:0 < l.length∧l.length≤3:=⟨M1.few.1,M1.few.2.1⟩
 obtain ⟨eA,sA,rA,g1,_⟩:=M1.lay
 refine ⟨_,rfl,_,rfl,m1,_,_,_,rfl,rfl,SqT.of g1,atI_nat (j:=0) rfl,p,sc,l,3,rfl,hl.1,by omega,by decide,by decide,FA3,fun t H4 htl htc d4 FA4=>?_⟩
 have T4:Ctx2 Pb Pl H4:=Ctx2.drew T3 FA3 d4
 have TP4:=Tb.drew TP3 FA3 d4
 have k4:=Tk.drew FA3 d4
 have M1:=M1.keep k4
 have M2:=M2.keep k4
 have htl':=len_list t
 have G1:GV H4 m1 l (fun cs=>wayN st1 b1 cs∈es1) 6:=⟨b1,es1,st1,M1,fun _ _=>Iff.rfl,by have:=eo.1; omega,eo.2.2⟩
 have G2:GV H4 m2 l (fun cs=>wayN st2 b2 cs∈es2) 6:=⟨b2,es2,st2,M2,fun _ _=>Iff.rfl,by omega,hs2⟩
 refine ⟨_,rfl,_,rfl,_,rfl,m1,m2,l,_,_,t,rfl,G1,G2,hl,htc,nd,T4,fun H5 e5 T5=>⟨_,rfl,iteF ?_⟩⟩
 have k5:=e5.tk T4
 have FA5:=e5.keepF T4 FA4
 have TP5:=e5.keepT T4 npb nlp.symm TP4
 have M15:=M1.keep k5
 have M25:=M2.keep k5
 obtain ⟨eB,sB,rB,q1,_⟩:=M15.lay
 refine ⟨_,rfl,_,rfl,_,rfl,_,rfl,m1,_,_,_,rfl,rfl,SqT.of q1,atI_nat (j:=0) rfl,p,sc,l,3,rfl,hl.1,by omega,by decide,by decide,FA5,fun u H6 hul huc d6 FA6=>?_⟩
 have k6:=Tk.drew FA5 d6
 have T6:Ctx2 Pb Pl H6:=Ctx2.drew T5 FA5 d6
 have TP6:=Tb.drew TP5 FA5 d6
 have hul':=len_list u
 have M16:=M15.keep k6
 have M26:=M25.keep k6
 have k46:=k5.trans k6
 have G16:=G1.keep k46
 have G26:=G2.keep k46
 refine ⟨m1,l,b1,es1,st1,_,t,u,rfl,M16,G16,htc,huc,by omega,by omega,nd,T6,fun H7 e7 T7=>⟨_,rfl,iteF ?_⟩⟩
 have k7:=e7.tk T6
 have TP7:=e7.keepT T6 npb nlp.symm TP6
 have G17:=G16.keep k7
 have G27:=G26.keep k7
 refine ⟨_,rfl,least_use G17 nd T7 fun y1 H8 e8 T8 L8=>?_⟩
 have k8:=e8.tk T7
 refine ⟨_,rfl,_,rfl,_,rfl,either_use (G17.keep k8) (G27.keep k8) (by decide) nd T8 fun y2 H9 e9 T9 L9=>?_⟩
 have k9:=e9.tk T8
 refine both_use ((G17.keep k8).keep k9) (L9.gv (by decide) hl) (by decide) nd T9 fun y3 H10 e10 T10 L10=>?_
 have k10:=e10.tk T9
 refine eqD_use nd hl.2 ((L8.keep k9).keep k10) L10 (by decide) (fun cs hc=>⟨fun z=>⟨z,.inl z⟩,fun z=>z.1⟩) ⟨_,rfl,iteF ?_⟩
 have e710:=(e8.trans e9).trans e10
 have k710:=(k8.trans k9).trans k10
 have TP10:=e710.keepT T7 npb nlp.symm TP7
 have k610:=k7.trans k710
 have M110:=M16.keep k610
 have M210:=M26.keep k610
 have hmul:st1.length * st2.length≤216:=Nat.le_trans (Nat.mul_le_mul eo.2.2 hs2) (by decide)
 refine ⟨_,rfl,_,rfl,m1,m2,l,b1,b2,es1,es2,st1,st2,rfl,M110,M210,hmul,TP10,fun H11 e11 TP11=>?_,fun z H11 e11 TP11 hzc hzl hz=>?_⟩
 ·have k11:=Tk.t e11 TP10
  obtain ⟨eC,sC,rC,w1,_⟩:=(M110.keep k11).lay
  obtain ⟨eD,sD,rD,w2,_⟩:=(M210.keep k11).lay
  refine ⟨_,rfl,rfl,_,rfl,ifY (decide_eq_true rfl) ⟨_,rfl,m1,_,_,_,rfl,rfl,SqT.of w1,atI_nat (j:=0) rfl,_,rfl,m2,_,_,_,rfl,rfl,SqT.of w2,atI_nat (j:=0) rfl,rfl,?_⟩⟩
  rw [decide_eq_true rfl]
  exact k _
 have k11:=Tk.t e11 TP10
 have T11:Ctx2 Pb Pl H11:=⟨Tb.sameT T10.b TP10 npb.symm e11,Tb.sameT T10.l TP10 nlp e11,T10.n⟩
 have G111:GV H11 m1 l (fun cs=>wayN st1 b1 cs∈es1) 6:=((G17.keep k710).keep k11)
 have G211:GV H11 m2 l (fun cs=>wayN st2 b2 cs∈es2) 6:=((G27.keep k710).keep k11)
 have hz':¬ (wayN st1 b1 (tx l z)∈es1↔wayN st2 b2 (tx l z)∈es2):=by
  rw [way_N,way_N] at hz
  exact hz
 refine ⟨_,rfl,rfl,_,rfl,ifN (decide_eq_false fun q=>nomatch q) ?_⟩
 have C1:Cuts P w K mg base Pb Pl C_behind.f (fun a b=>a ++ b):=⟨_,_,_,C_behind.ok,C_behind.kp,C_behind.b,fun a b c d e=>behind_use a b c d e⟩
 have C2:Cuts P w K mg base Pb Pl C_ahead.f (fun a b=>b ++ a):=⟨_,_,_,C_ahead.ok,C_ahead.kp,C_ahead.b,fun a b c d e=>ahead_use a b c d e⟩
 have hnil:∀ c∈(Str.ofString "").cps.toList,c∈l.cps.toList:=by
  rw [show (Str.ofString "").cps.toList=[] by decide +kernel]
  exact fun c hc=>(List.not_mem_nil hc).elim
 have txn:tx l (Str.ofString "")=[]:=by
  unfold tx
  rw [show (Str.ofString "").cps.toList=[] by decide +kernel]
  rfl
 refine ⟨(by show 2≤sizeLine; decide),fun tp htp=>⟨tp,rfl,⟨_,SqT.of upd_same⟩,?_⟩⟩
 have s12:=same_new htp (.tup [V.ref C_behind.f,V.ref C_ahead.f])
 refine for_tup (K:=K) (a:=tp) (xs:=[V.ref C_behind.f,V.ref C_ahead.f]) (fun j σ Hj=>∃ v6,σ=[some (.ref a),some (.ref p),some (.ref m1),some (.ref m2),some (.str t),some (.str z),v6]∧Kp2 Pb Pl H11 Hj∧Ctx2 Pb Pl Hj∧Hj tp=some (.tup [V.ref C_behind.f,V.ref C_ahead.f])) ⟨none,rfl,Same.kpp s12,T11.same s12,upd_same⟩ (fun j σ Hj _ h=>?_) ?_ ?_
 ·obtain ⟨_,_,_,_,h⟩:=h
  exact SqT.of h
 ·rintro j x σ Hj hx ⟨v6,rfl,ej,Tj,hjt⟩
  have hC:∃ fj op,x=.ref fj∧Cuts P w K mg base Pb Pl fj op∧∀ b:List Nat,op b []=b:=by
   have:=List.mem_of_getElem? hx
   simp only [List.mem_cons,List.mem_nil_iff,or_false] at this
   rcases this with q | q
   ·exact ⟨_,_,q,C1,fun b=>List.append_nil b⟩
   ·exact ⟨_,_,q,C2,fun b=>List.nil_append b⟩
  obtain ⟨fj,op,rfl,⟨fdj,psj,spj,Fj,kj,bj,use⟩,hop⟩:=hC
  have kt:=ej.tk T11
  refine ⟨fj,fdj,psj,spj,Fj,kj,bj,rfl,_,rfl,_,rfl,use (G111.keep kt) hzc nd Tj fun r1 Ha ea Ta La=>?_⟩
  have ka:=ea.tk Tj
  refine tcons_c (tnil_i ?_)
  refine takes_use La (by decide) hl hnil fun v1 hv1=>?_
  refine ⟨fj,fdj,psj,spj,Fj,kj,bj,rfl,_,rfl,_,rfl,use ((G211.keep kt).keep ka) hzc nd Ta fun r2 Hb eb Tb' Lb=>?_⟩
  refine tcons_c (tnil_i ?_)
  refine takes_use Lb (by decide) hl hnil fun v2 hv2=>⟨rfl,_,rfl,?_⟩
  rw [txn,hop] at hv1 hv2
  have hne:¬ V.bl v1=V.bl v2:=fun q=>hz' (by
   have:=V.bl.inj q
   rw [← hv1,← hv2,this])
  refine ifN (decide_eq_false hne) ?_
  exact ⟨_,rfl,(ej.trans ea).trans eb,Tb',(ka.trans (eb.tk Ta)) _ _ hjt⟩
 ·rintro σ Hj ⟨v6,rfl,ej,Tj,_⟩
  have kt:=ej.tk T11
  refine ⟨_,rfl,_,rfl,either_use (G111.keep kt) (G211.keep kt) (by decide) nd Tj fun r1 Ha ea Ta La=>?_⟩
  refine ⟨_,rfl,?_⟩
  refine tnil_i ?_
  refine takes_use La (by decide) hl hzc fun v1 hv1=>?_
  refine ⟨v1,rfl,?_⟩
  have hv:v1=true:=hv1.mpr (Classical.byContradiction fun q=>hz' ⟨fun y=>absurd (.inl y) q,fun y=>absurd (.inr y) q⟩)
  have ka:=ea.tk Tj
  refine ifY hv ⟨_,rfl,_,rfl,both_use ((G111.keep kt).keep ka) ((G211.keep kt).keep ka) (by decide) nd Ta fun r2 Hb eb Tb' Lb=>?_⟩
  refine ⟨_,rfl,?_⟩
  refine tnil_i ?_
  refine takes_use Lb (by decide) hl hzc fun v2 hv2=>?_
  refine ⟨v2,rfl,?_⟩
  have hv':v2=false:=eq_false_of_ne_true fun q=>hz' (by
   have:=hv2.mp q
   exact ⟨fun _=>this.2,fun _=>this.1⟩)
  rw [hv']
  exact k _
end
theorem all_mk {l:PySem.W.OpenLaw} {w:World} {K:PySem.W.Frag} {h:Heap} {mg:Str→Option Value} {fa:Addr} (X:K.In h) (G:h.Ns mainGlobals mg) (hfa:mg "law" = some (.ref fa)) {qp:Program} (TT:TabTop qp K h)
  {f1:Addr} {od1 an1:Option Addr} {sl1:Array (Option Value)} {oc1 kV1 dc1 pm1 cd1 ct1:Value}
  (a1:PySem.W.nsIn K mainGlobals "room_behind" = some (some (.ref f1))) (l1:K.lookup f1=some ⟨oc1,od1,.func (PySem.W.fnOf "room_behind" "room_behind" (defArgs s_room_behind) (defBody s_room_behind) (defScope s_room_behind) .none kV1 dc1 pm1 an1 cd1 ct1),sl1⟩) (c1:PySem.W.codeIn K cd1 "room_behind" = true) (k1:PySem.W.keepIn K (.ref f1)=true)
  {f2:Addr} {od2 an2:Option Addr} {sl2:Array (Option Value)} {oc2 kV2 dc2 pm2 cd2 ct2:Value}
  (a2:PySem.W.nsIn K mainGlobals "takes" = some (some (.ref f2))) (l2:K.lookup f2=some ⟨oc2,od2,.func (PySem.W.fnOf "takes" "takes" (defArgs s_takes) (defBody s_takes) (defScope s_takes) .none kV2 dc2 pm2 an2 cd2 ct2),sl2⟩) (c2:PySem.W.codeIn K cd2 "takes" = true) (k2:PySem.W.keepIn K (.ref f2)=true)
  {f3:Addr} {od3 an3:Option Addr} {sl3:Array (Option Value)} {oc3 kV3 dc3 pm3 cd3 ct3:Value}
  (a3:PySem.W.nsIn K mainGlobals "look_fit" = some (some (.ref f3))) (l3:K.lookup f3=some ⟨oc3,od3,.func (PySem.W.fnOf "look_fit" "look_fit" (defArgs s_look_fit) (defBody s_look_fit) (defScope s_look_fit) .none kV3 dc3 pm3 an3 cd3 ct3),sl3⟩) (c3:PySem.W.codeIn K cd3 "look_fit" = true) (k3:PySem.W.keepIn K (.ref f3)=true)
  {f4:Addr} {od4 an4:Option Addr} {sl4:Array (Option Value)} {oc4 kV4 dc4 pm4 cd4 ct4:Value}
  (a4:PySem.W.nsIn K mainGlobals "pair_behind" = some (some (.ref f4))) (l4:K.lookup f4=some ⟨oc4,od4,.func (PySem.W.fnOf "pair_behind" "pair_behind" (defArgs s_pair_behind) (defBody s_pair_behind) (defScope s_pair_behind) .none kV4 dc4 pm4 an4 cd4 ct4),sl4⟩) (c4:PySem.W.codeIn K cd4 "pair_behind" = true) (k4:PySem.W.keepIn K (.ref f4)=true)
  {f5:Addr} {od5 an5:Option Addr} {sl5:Array (Option Value)} {oc5 kV5 dc5 pm5 cd5 ct5:Value}
  (a5:PySem.W.nsIn K mainGlobals "walked" = some (some (.ref f5))) (l5:K.lookup f5=some ⟨oc5,od5,.func (PySem.W.fnOf "walked" "walked" (defArgs s_walked) (defBody s_walked) (defScope s_walked) .none kV5 dc5 pm5 an5 cd5 ct5),sl5⟩) (c5:PySem.W.codeIn K cd5 "walked" = true) (k5:PySem.W.keepIn K (.ref f5)=true)
  {f6:Addr} {od6 an6:Option Addr} {sl6:Array (Option Value)} {oc6 kV6 dc6 pm6 cd6 ct6:Value}
  (a6:PySem.W.nsIn K mainGlobals "machine_from" = some (some (.ref f6))) (l6:K.lookup f6=some ⟨oc6,od6,.func (PySem.W.fnOf "machine_from" "machine_from" (defArgs s_machine_from) (defBody s_machine_from) (defScope s_machine_from) .none kV6 dc6 pm6 an6 cd6 ct6),sl6⟩) (c6:PySem.W.codeIn K cd6 "machine_from" = true) (k6:PySem.W.keepIn K (.ref f6)=true)
  {f7:Addr} {od7 an7:Option Addr} {sl7:Array (Option Value)} {oc7 kV7 dc7 pm7 cd7 ct7:Value}
  (a7:PySem.W.nsIn K mainGlobals "first_like" = some (some (.ref f7))) (l7:K.lookup f7=some ⟨oc7,od7,.func (PySem.W.fnOf "first_like" "first_like" (defArgs s_first_like) (defBody s_first_like) (defScope s_first_like) .none kV7 dc7 pm7 an7 cd7 ct7),sl7⟩) (c7:PySem.W.codeIn K cd7 "first_like" = true) (k7:PySem.W.keepIn K (.ref f7)=true)
  {f8:Addr} {od8 an8:Option Addr} {sl8:Array (Option Value)} {oc8 kV8 dc8 pm8 cd8 ct8:Value}
  (a8:PySem.W.nsIn K mainGlobals "like_rooms" = some (some (.ref f8))) (l8:K.lookup f8=some ⟨oc8,od8,.func (PySem.W.fnOf "like_rooms" "like_rooms" (defArgs s_like_rooms) (defBody s_like_rooms) (defScope s_like_rooms) .none kV8 dc8 pm8 an8 cd8 ct8),sl8⟩) (c8:PySem.W.codeIn K cd8 "like_rooms" = true) (k8:PySem.W.keepIn K (.ref f8)=true)
  {f9:Addr} {od9 an9:Option Addr} {sl9:Array (Option Value)} {oc9 kV9 dc9 pm9 cd9 ct9:Value}
  (a9:PySem.W.nsIn K mainGlobals "least" = some (some (.ref f9))) (l9:K.lookup f9=some ⟨oc9,od9,.func (PySem.W.fnOf "least" "least" (defArgs s_least) (defBody s_least) (defScope s_least) .none kV9 dc9 pm9 an9 cd9 ct9),sl9⟩) (c9:PySem.W.codeIn K cd9 "least" = true) (k9:PySem.W.keepIn K (.ref f9)=true)
  {f10:Addr} {od10 an10:Option Addr} {sl10:Array (Option Value)} {oc10 kV10 dc10 pm10 cd10 ct10:Value}
  (a10:PySem.W.nsIn K mainGlobals "parting_text" = some (some (.ref f10))) (l10:K.lookup f10=some ⟨oc10,od10,.func (PySem.W.fnOf "parting_text" "parting_text" (defArgs s_parting_text) (defBody s_parting_text) (defScope s_parting_text) .none kV10 dc10 pm10 an10 cd10 ct10),sl10⟩) (c10:PySem.W.codeIn K cd10 "parting_text" = true) (k10:PySem.W.keepIn K (.ref f10)=true)
  {f11:Addr} {od11 an11:Option Addr} {sl11:Array (Option Value)} {oc11 kV11 dc11 pm11 cd11 ct11:Value}
  (a11:PySem.W.nsIn K mainGlobals "contrary" = some (some (.ref f11))) (l11:K.lookup f11=some ⟨oc11,od11,.func (PySem.W.fnOf "contrary" "contrary" (defArgs s_contrary) (defBody s_contrary) (defScope s_contrary) .none kV11 dc11 pm11 an11 cd11 ct11),sl11⟩) (c11:PySem.W.codeIn K cd11 "contrary" = true) (k11:PySem.W.keepIn K (.ref f11)=true)
  {f12:Addr} {od12 an12:Option Addr} {sl12:Array (Option Value)} {oc12 kV12 dc12 pm12 cd12 ct12:Value}
  (a12:PySem.W.nsIn K mainGlobals "both" = some (some (.ref f12))) (l12:K.lookup f12=some ⟨oc12,od12,.func (PySem.W.fnOf "both" "both" (defArgs s_both) (defBody s_both) (defScope s_both) .none kV12 dc12 pm12 an12 cd12 ct12),sl12⟩) (c12:PySem.W.codeIn K cd12 "both" = true) (k12:PySem.W.keepIn K (.ref f12)=true)
  {f13:Addr} {od13 an13:Option Addr} {sl13:Array (Option Value)} {oc13 kV13 dc13 pm13 cd13 ct13:Value}
  (a13:PySem.W.nsIn K mainGlobals "either" = some (some (.ref f13))) (l13:K.lookup f13=some ⟨oc13,od13,.func (PySem.W.fnOf "either" "either" (defArgs s_either) (defBody s_either) (defScope s_either) .none kV13 dc13 pm13 an13 cd13 ct13),sl13⟩) (c13:PySem.W.codeIn K cd13 "either" = true) (k13:PySem.W.keepIn K (.ref f13)=true)
  {f14:Addr} {od14 an14:Option Addr} {sl14:Array (Option Value)} {oc14 kV14 dc14 pm14 cd14 ct14:Value}
  (a14:PySem.W.nsIn K mainGlobals "behind" = some (some (.ref f14))) (l14:K.lookup f14=some ⟨oc14,od14,.func (PySem.W.fnOf "behind" "behind" (defArgs s_behind) (defBody s_behind) (defScope s_behind) .none kV14 dc14 pm14 an14 cd14 ct14),sl14⟩) (c14:PySem.W.codeIn K cd14 "behind" = true) (k14:PySem.W.keepIn K (.ref f14)=true)
  {f15:Addr} {od15 an15:Option Addr} {sl15:Array (Option Value)} {oc15 kV15 dc15 pm15 cd15 ct15:Value}
  (a15:PySem.W.nsIn K mainGlobals "ahead" = some (some (.ref f15))) (l15:K.lookup f15=some ⟨oc15,od15,.func (PySem.W.fnOf "ahead" "ahead" (defArgs s_ahead) (defBody s_ahead) (defScope s_ahead) .none kV15 dc15 pm15 an15 cd15 ct15),sl15⟩) (c15:PySem.W.codeIn K cd15 "ahead" = true) (k15:PySem.W.keepIn K (.ref f15)=true)
  {f16:Addr} {od16 an16:Option Addr} {sl16:Array (Option Value)} {oc16 kV16 dc16 pm16 cd16 ct16:Value}
  (a16:PySem.W.nsIn K mainGlobals "_law_flow" = some (some (.ref f16))) (l16:K.lookup f16=some ⟨oc16,od16,.func (PySem.W.fnOf "_law_flow" "_law_flow" (defArgs s_law_flow) (defBody s_law_flow) (defScope s_law_flow) .none kV16 dc16 pm16 an16 cd16 ct16),sl16⟩) (c16:PySem.W.codeIn K cd16 "_law_flow" = true) (k16:PySem.W.keepIn K (.ref f16)=true)
  {f17:Addr} {od17 an17:Option Addr} {sl17:Array (Option Value)} {oc17 kV17 dc17 pm17 cd17 ct17:Value}
  (a17:PySem.W.nsIn K mainGlobals "_law_pick" = some (some (.ref f17))) (l17:K.lookup f17=some ⟨oc17,od17,.func (PySem.W.fnOf "_law_pick" "_law_pick" (defArgs s_law_pick) (defBody s_law_pick) (defScope s_law_pick) .none kV17 dc17 pm17 an17 cd17 ct17),sl17⟩) (c17:PySem.W.codeIn K cd17 "_law_pick" = true) (k17:PySem.W.keepIn K (.ref f17)=true)
  {f18:Addr} {od18 an18:Option Addr} {sl18:Array (Option Value)} {oc18 kV18 dc18 pm18 cd18 ct18:Value}
  (a18:PySem.W.nsIn K mainGlobals "_law_letters" = some (some (.ref f18))) (l18:K.lookup f18=some ⟨oc18,od18,.func (PySem.W.fnOf "_law_letters" "_law_letters" (defArgs s_law_letters) (defBody s_law_letters) (defScope s_law_letters) .none kV18 dc18 pm18 an18 cd18 ct18),sl18⟩) (c18:PySem.W.codeIn K cd18 "_law_letters" = true) (k18:PySem.W.keepIn K (.ref f18)=true)
  {f19:Addr} {od19 an19:Option Addr} {sl19:Array (Option Value)} {oc19 kV19 dc19 pm19 cd19 ct19:Value}
  (a19:PySem.W.nsIn K mainGlobals "_law_word" = some (some (.ref f19))) (l19:K.lookup f19=some ⟨oc19,od19,.func (PySem.W.fnOf "_law_word" "_law_word" (defArgs s_law_word) (defBody s_law_word) (defScope s_law_word) .none kV19 dc19 pm19 an19 cd19 ct19),sl19⟩) (c19:PySem.W.codeIn K cd19 "_law_word" = true) (k19:PySem.W.keepIn K (.ref f19)=true)
  {f20:Addr} {od20 an20:Option Addr} {sl20:Array (Option Value)} {oc20 kV20 dc20 pm20 cd20 ct20:Value}
  (a20:PySem.W.nsIn K mainGlobals "_law_machine" = some (some (.ref f20))) (l20:K.lookup f20=some ⟨oc20,od20,.func (PySem.W.fnOf "_law_machine" "_law_machine" (defArgs s_law_machine) (defBody s_law_machine) (defScope s_law_machine) .none kV20 dc20 pm20 an20 cd20 ct20),sl20⟩) (c20:PySem.W.codeIn K cd20 "_law_machine" = true) (k20:PySem.W.keepIn K (.ref f20)=true)
  {f21:Addr} {od21 an21:Option Addr} {sl21:Array (Option Value)} {oc21 kV21 dc21 pm21 cd21 ct21:Value}
  (a21:PySem.W.nsIn K mainGlobals "_law_rising_machine" = some (some (.ref f21))) (l21:K.lookup f21=some ⟨oc21,od21,.func (PySem.W.fnOf "_law_rising_machine" "_law_rising_machine" (defArgs s_law_rising_machine) (defBody s_law_rising_machine) (defScope s_law_rising_machine) .none kV21 dc21 pm21 an21 cd21 ct21),sl21⟩) (c21:PySem.W.codeIn K cd21 "_law_rising_machine" = true) (k21:PySem.W.keepIn K (.ref f21)=true)
  {f22:Addr} {od22 an22:Option Addr} {sl22:Array (Option Value)} {oc22 kV22 dc22 pm22 cd22 ct22:Value}
  (a22:PySem.W.nsIn K mainGlobals "_law_least" = some (some (.ref f22))) (l22:K.lookup f22=some ⟨oc22,od22,.func (PySem.W.fnOf "_law_least" "_law_least" (defArgs s_law_least) (defBody s_law_least) (defScope s_law_least) .none kV22 dc22 pm22 an22 cd22 ct22),sl22⟩) (c22:PySem.W.codeIn K cd22 "_law_least" = true) (k22:PySem.W.keepIn K (.ref f22)=true)
  {f23:Addr} {od23 an23:Option Addr} {sl23:Array (Option Value)} {oc23 kV23 dc23 pm23 cd23 ct23:Value}
  (a23:PySem.W.nsIn K mainGlobals "_law_same_otherwise" = some (some (.ref f23))) (l23:K.lookup f23=some ⟨oc23,od23,.func (PySem.W.fnOf "_law_same_otherwise" "_law_same_otherwise" (defArgs s_law_same_otherwise) (defBody s_law_same_otherwise) (defScope s_law_same_otherwise) .none kV23 dc23 pm23 an23 cd23 ct23),sl23⟩) (c23:PySem.W.codeIn K cd23 "_law_same_otherwise" = true) (k23:PySem.W.keepIn K (.ref f23)=true)
  {f24:Addr} {od24 an24:Option Addr} {sl24:Array (Option Value)} {oc24 kV24 dc24 pm24 cd24 ct24:Value}
  (a24:PySem.W.nsIn K mainGlobals "_law_near" = some (some (.ref f24))) (l24:K.lookup f24=some ⟨oc24,od24,.func (PySem.W.fnOf "_law_near" "_law_near" (defArgs s_law_near) (defBody s_law_near) (defScope s_law_near) .none kV24 dc24 pm24 an24 cd24 ct24),sl24⟩) (c24:PySem.W.codeIn K cd24 "_law_near" = true) (k24:PySem.W.keepIn K (.ref f24)=true)
  {f25:Addr} {od25 an25:Option Addr} {sl25:Array (Option Value)} {oc25 kV25 dc25 pm25 cd25 ct25:Value}
  (a25:PySem.W.nsIn K mainGlobals "_law_some" = some (some (.ref f25))) (l25:K.lookup f25=some ⟨oc25,od25,.func (PySem.W.fnOf "_law_some" "_law_some" (defArgs s_law_some) (defBody s_law_some) (defScope s_law_some) .none kV25 dc25 pm25 an25 cd25 ct25),sl25⟩) (c25:PySem.W.codeIn K cd25 "_law_some" = true) (k25:PySem.W.keepIn K (.ref f25)=true)
  {f26:Addr} {od26 an26:Option Addr} {sl26:Array (Option Value)} {oc26 kV26 dc26 pm26 cd26 ct26:Value}
  (a26:PySem.W.nsIn K mainGlobals "_law_joined_right" = some (some (.ref f26))) (l26:K.lookup f26=some ⟨oc26,od26,.func (PySem.W.fnOf "_law_joined_right" "_law_joined_right" (defArgs s_law_joined_right) (defBody s_law_joined_right) (defScope s_law_joined_right) .none kV26 dc26 pm26 an26 cd26 ct26),sl26⟩) (c26:PySem.W.codeIn K cd26 "_law_joined_right" = true) (k26:PySem.W.keepIn K (.ref f26)=true)
  {f27:Addr} {od27 an27:Option Addr} {sl27:Array (Option Value)} {oc27 kV27 dc27 pm27 cd27 ct27:Value}
  (a27:PySem.W.nsIn K mainGlobals "_law_cut_right" = some (some (.ref f27))) (l27:K.lookup f27=some ⟨oc27,od27,.func (PySem.W.fnOf "_law_cut_right" "_law_cut_right" (defArgs s_law_cut_right) (defBody s_law_cut_right) (defScope s_law_cut_right) .none kV27 dc27 pm27 an27 cd27 ct27),sl27⟩) (c27:PySem.W.codeIn K cd27 "_law_cut_right" = true) (k27:PySem.W.keepIn K (.ref f27)=true)
  {f28:Addr} {od28 an28:Option Addr} {sl28:Array (Option Value)} {oc28 kV28 dc28 pm28 cd28 ct28:Value}
  (a28:PySem.W.nsIn K mainGlobals "law" = some (some (.ref f28))) (l28:K.lookup f28=some ⟨oc28,od28,.func (PySem.W.fnOf "law" "law" (defArgs s_law) (defBody s_law) (defScope s_law) .none kV28 dc28 pm28 an28 cd28 ct28),sl28⟩) (c28:PySem.W.codeIn K cd28 "law" = true) (k28:PySem.W.keepIn K (.ref f28)=true)
  (z_enumerate:PySem.W.nsIn K mainGlobals "enumerate" = some none)
  (z_int:PySem.W.nsIn K mainGlobals "int" = some none)
  (z_len:PySem.W.nsIn K mainGlobals "len" = some none)
  (z_list:PySem.W.nsIn K mainGlobals "list" = some none)
  (z_range:PySem.W.nsIn K mainGlobals "range" = some none)
  (z_set:PySem.W.nsIn K mainGlobals "set" = some none)
  (z_sorted:PySem.W.nsIn K mainGlobals "sorted" = some none)
  (z_tuple:PySem.W.nsIn K mainGlobals "tuple" = some none)
  (n0:PySem.W.noTabs K=true)
  {c_least P_least:Addr} {d_least:DefRec} {oc_least:Value} {od_least:Option Addr} {sl_least:Array (Option Value)} {vs_least:Array Value} (y_least:cd9=.ref c_least) (v_least:K.lookup c_least=some ⟨oc_least,od_least,.fields vs_least,sl_least⟩) (u_least:vs_least[11]? = some (.ref P_least)) (w_least:(recsOf qp).find? (fun e=>e.name==Str.ofString "least")=some d_least)
  {c_parting_text P_parting_text:Addr} {d_parting_text:DefRec} {oc_parting_text:Value} {od_parting_text:Option Addr} {sl_parting_text:Array (Option Value)} {vs_parting_text:Array Value} (y_parting_text:cd10=.ref c_parting_text) (v_parting_text:K.lookup c_parting_text=some ⟨oc_parting_text,od_parting_text,.fields vs_parting_text,sl_parting_text⟩) (u_parting_text:vs_parting_text[11]? = some (.ref P_parting_text)) (w_parting_text:(recsOf qp).find? (fun e=>e.name==Str.ofString "parting_text")=some d_parting_text)
  {c_both P_both:Addr} {d_both:DefRec} {oc_both:Value} {od_both:Option Addr} {sl_both:Array (Option Value)} {vs_both:Array Value} (y_both:cd12=.ref c_both) (v_both:K.lookup c_both=some ⟨oc_both,od_both,.fields vs_both,sl_both⟩) (u_both:vs_both[11]? = some (.ref P_both)) (w_both:(recsOf qp).find? (fun e=>e.name==Str.ofString "both")=some d_both)
  (x_least_parting_text:P_least≠P_parting_text)
  (x_least_both:P_least≠P_both)
  (x_parting_text_both:P_parting_text≠P_both)
  : PySem.W.noTabs K=true∧∃ (fd:FuncData) (tabs:List (Addr × Addr)),PySem.W.TabsAt tabs h∧(∀ (s:Shared) (v:Value),BindsTo s fd ⟨[v],[]⟩ [("_law_script",v)])∧∀ base:Heap,K.In base→base.Ns mainGlobals mg→BltM mg base→FnOk l.prog w K mg base CX0 9 fa fd ["_law_script"] (spLawT K tabs):=by
 have e:=hfa.symm.trans (PySem.W.mg_of X G a28)
 cases e
 have F_room_behind:=fun_mk (st:=s_room_behind) l1 c1 k1
 have b_room_behind:=F_room_behind.binds (ps:=["machine","room","text"]) fun _ _ _ _ _ _ us hl=>match us,hl with | [_,_,_],_=>rfl
 have m_room_behind:=PySem.W.mg_of X G a1
 have F_takes:=fun_mk (st:=s_takes) l2 c2 k2
 have b_takes:=F_takes.binds (ps:=["machine","text"]) fun _ _ _ _ _ _ us hl=>match us,hl with | [_,_],_=>rfl
 have m_takes:=PySem.W.mg_of X G a2
 have F_look_fit:=fun_mk (st:=s_look_fit) l3 c3 k3
 have b_look_fit:=F_look_fit.binds (ps:=["one","other"]) fun _ _ _ _ _ _ us hl=>match us,hl with | [_,_],_=>rfl
 have m_look_fit:=PySem.W.mg_of X G a3
 have F_pair_behind:=fun_mk (st:=s_pair_behind) l4 c4 k4
 have b_pair_behind:=F_pair_behind.binds (ps:=["one","other","pair","letter"]) fun _ _ _ _ _ _ us hl=>match us,hl with | [_,_,_,_],_=>rfl
 have m_pair_behind:=PySem.W.mg_of X G a4
 have F_walked:=fun_mk (st:=s_walked) l5 c5 k5
 have b_walked:=F_walked.binds (ps:=["letters","begin","step"]) fun _ _ _ _ _ _ us hl=>match us,hl with | [_,_,_],_=>rfl
 have m_walked:=PySem.W.mg_of X G a5
 have F_machine_from:=fun_mk (st:=s_machine_from) l6 c6 k6
 have b_machine_from:=F_machine_from.binds (ps:=["letters","begin","step","is_end"]) fun _ _ _ _ _ _ us hl=>match us,hl with | [_,_,_,_],_=>rfl
 have m_machine_from:=PySem.W.mg_of X G a6
 have F_first_like:=fun_mk (st:=s_first_like) l7 c7 k7
 have b_first_like:=F_first_like.binds (ps:=["rows"]) fun _ _ _ _ _ _ us hl=>match us,hl with | [_],_=>rfl
 have m_first_like:=PySem.W.mg_of X G a7
 have F_like_rooms:=fun_mk (st:=s_like_rooms) l8 c8 k8
 have b_like_rooms:=F_like_rooms.binds (ps:=["machine"]) fun _ _ _ _ _ _ us hl=>match us,hl with | [_],_=>rfl
 have m_like_rooms:=PySem.W.mg_of X G a8
 have F_least:=fun_mk (st:=s_least) l9 c9 k9
 have b_least:=F_least.binds (ps:=["machine"]) fun _ _ _ _ _ _ us hl=>match us,hl with | [_],_=>rfl
 have m_least:=PySem.W.mg_of X G a9
 have F_parting_text:=fun_mk (st:=s_parting_text) l10 c10 k10
 have b_parting_text:=F_parting_text.binds (ps:=["one","other"]) fun _ _ _ _ _ _ us hl=>match us,hl with | [_,_],_=>rfl
 have m_parting_text:=PySem.W.mg_of X G a10
 have F_contrary:=fun_mk (st:=s_contrary) l11 c11 k11
 have b_contrary:=F_contrary.binds (ps:=["machine"]) fun _ _ _ _ _ _ us hl=>match us,hl with | [_],_=>rfl
 have m_contrary:=PySem.W.mg_of X G a11
 have F_both:=fun_mk (st:=s_both) l12 c12 k12
 have b_both:=F_both.binds (ps:=["one","other"]) fun _ _ _ _ _ _ us hl=>match us,hl with | [_,_],_=>rfl
 have m_both:=PySem.W.mg_of X G a12
 have F_either:=fun_mk (st:=s_either) l13 c13 k13
 have b_either:=F_either.binds (ps:=["one","other"]) fun _ _ _ _ _ _ us hl=>match us,hl with | [_,_],_=>rfl
 have m_either:=PySem.W.mg_of X G a13
 have F_behind:=fun_mk (st:=s_behind) l14 c14 k14
 have b_behind:=F_behind.binds (ps:=["machine","word"]) fun _ _ _ _ _ _ us hl=>match us,hl with | [_,_],_=>rfl
 have m_behind:=PySem.W.mg_of X G a14
 have F_ahead:=fun_mk (st:=s_ahead) l15 c15 k15
 have b_ahead:=F_ahead.binds (ps:=["machine","word"]) fun _ _ _ _ _ _ us hl=>match us,hl with | [_,_],_=>rfl
 have m_ahead:=PySem.W.mg_of X G a15
 have F_law_flow:=fun_mk (st:=s_law_flow) l16 c16 k16
 have b_law_flow:=F_law_flow.binds (ps:=["_law_script"]) fun _ _ _ _ _ _ us hl=>match us,hl with | [_],_=>rfl
 have m_law_flow:=PySem.W.mg_of X G a16
 have F_law_pick:=fun_mk (st:=s_law_pick) l17 c17 k17
 have b_law_pick:=F_law_pick.binds (ps:=["_law_flow_here","_law_many"]) fun _ _ _ _ _ _ us hl=>match us,hl with | [_,_],_=>rfl
 have m_law_pick:=PySem.W.mg_of X G a17
 have F_law_letters:=fun_mk (st:=s_law_letters) l18 c18 k18
 have b_law_letters:=F_law_letters.binds (ps:=["_law_flow_here","_law_many"]) fun _ _ _ _ _ _ us hl=>match us,hl with | [_,_],_=>rfl
 have m_law_letters:=PySem.W.mg_of X G a18
 have F_law_word:=fun_mk (st:=s_law_word) l19 c19 k19
 have b_law_word:=F_law_word.binds (ps:=["_law_flow_here","_law_letters_here","_law_most"]) fun _ _ _ _ _ _ us hl=>match us,hl with | [_,_,_],_=>rfl
 have m_law_word:=PySem.W.mg_of X G a19
 have F_law_machine:=fun_mk (st:=s_law_machine) l20 c20 k20
 have b_law_machine:=F_law_machine.binds (ps:=["_law_flow_here","_law_letters_here","_law_most"]) fun _ _ _ _ _ _ us hl=>match us,hl with | [_,_,_],_=>rfl
 have m_law_machine:=PySem.W.mg_of X G a20
 have F_law_rising_machine:=fun_mk (st:=s_law_rising_machine) l21 c21 k21
 have b_law_rising_machine:=F_law_rising_machine.binds (ps:=["_law_flow_here","_law_letters_here","_law_most"]) fun _ _ _ _ _ _ us hl=>match us,hl with | [_,_,_],_=>rfl
 have m_law_rising_machine:=PySem.W.mg_of X G a21
 have F_law_least:=fun_mk (st:=s_law_least) l22 c22 k22
 have b_law_least:=F_law_least.binds (ps:=["_law_machine_here"]) fun _ _ _ _ _ _ us hl=>match us,hl with | [_],_=>rfl
 have m_law_least:=PySem.W.mg_of X G a22
 have F_law_same_otherwise:=fun_mk (st:=s_law_same_otherwise) l23 c23 k23
 have b_law_same_otherwise:=F_law_same_otherwise.binds (ps:=["_law_flow_here","_law_machine_here","_law_most"]) fun _ _ _ _ _ _ us hl=>match us,hl with | [_,_,_],_=>rfl
 have m_law_same_otherwise:=PySem.W.mg_of X G a23
 have F_law_near:=fun_mk (st:=s_law_near) l24 c24 k24
 have b_law_near:=F_law_near.binds (ps:=["_law_flow_here","_law_machine_here"]) fun _ _ _ _ _ _ us hl=>match us,hl with | [_,_],_=>rfl
 have m_law_near:=PySem.W.mg_of X G a24
 have F_law_some:=fun_mk (st:=s_law_some) l25 c25 k25
 have b_law_some:=F_law_some.binds (ps:=["_law_flow_here"]) fun _ _ _ _ _ _ us hl=>match us,hl with | [_],_=>rfl
 have m_law_some:=PySem.W.mg_of X G a25
 have F_law_joined_right:=fun_mk (st:=s_law_joined_right) l26 c26 k26
 have b_law_joined_right:=F_law_joined_right.binds (ps:=["_law_one","_law_other","_law_word_here"]) fun _ _ _ _ _ _ us hl=>match us,hl with | [_,_,_],_=>rfl
 have m_law_joined_right:=PySem.W.mg_of X G a26
 have F_law_cut_right:=fun_mk (st:=s_law_cut_right) l27 c27 k27
 have b_law_cut_right:=F_law_cut_right.binds (ps:=["_law_machine_here","_law_word_here","_law_more"]) fun _ _ _ _ _ _ us hl=>match us,hl with | [_,_,_],_=>rfl
 have m_law_cut_right:=PySem.W.mg_of X G a27
 have F_law:=fun_mk (st:=s_law) l28 c28 k28
 have b_law:=F_law.binds (ps:=["_law_script"]) fun _ _ _ _ _ _ us hl=>match us,hl with | [_],_=>rfl
 have m_law:=PySem.W.mg_of X G a28
 have Z:Blt mg:=⟨PySem.W.mg_none_of X G z_enumerate,PySem.W.mg_none_of X G z_int,PySem.W.mg_none_of X G z_len,PySem.W.mg_none_of X G z_list,PySem.W.mg_none_of X G z_range,PySem.W.mg_none_of X G z_set,PySem.W.mg_none_of X G z_sorted,PySem.W.mg_none_of X G z_tuple⟩
 have t_least:=tabIn_of a9 l9 y_least v_least u_least
 have TA_least:=TT _ _ _ _ w_least t_least
 have t_parting_text:=tabIn_of a10 l10 y_parting_text v_parting_text u_parting_text
 have TA_parting_text:=TT _ _ _ _ w_parting_text t_parting_text
 have t_both:=tabIn_of a12 l12 y_both v_both u_both
 have TA_both:=TT _ _ _ _ w_both t_both
 refine ⟨n0,PySem.W.fnOf "law" "law" (defArgs s_law) (defBody s_law) (defScope s_law) .none kV28 dc28 pm28 an28 cd28 ct28,[(c_least,P_least),(c_parting_text,P_parting_text),(c_both,P_both)],?_,fun s v=>.of_eq rfl,fun base BX BG BM=>?_⟩
 ·exact List.forall_mem_cons.mpr ⟨TA_least,List.forall_mem_cons.mpr ⟨TA_parting_text,List.forall_mem_cons.mpr ⟨TA_both,fun _ h=>nomatch h⟩⟩⟩
 have CH_least:=head_of TA_least.1 X BX v_least
 have h_least:=PySem.W.law_code X G t_least m_least (X _ _ l9) rfl
 have CH_parting_text:=head_of TA_parting_text.1 X BX v_parting_text
 have h_parting_text:=PySem.W.law_code X G t_parting_text m_parting_text (X _ _ l10) rfl
 have CH_both:=head_of TA_both.1 X BX v_both
 have h_both:=PySem.W.law_code X G t_both m_both (X _ _ l12) rfl
 have C_law_pick:Cal l.prog w K mg base "_law_pick" 1 _ spPick:=⟨_,_,ok_law_pick F_law_pick Z,m_law_pick,F_law_pick.kp,b_law_pick⟩
 have C_law_flow:Cal l.prog w K mg base "_law_flow" 1 _ (spFlow K):=⟨_,_,ok_law_flow F_law_flow Z,m_law_flow,F_law_flow.kp,b_law_flow⟩
 have C_law_letters:Cal l.prog w K mg base "_law_letters" 2 _ spLetters:=⟨_,_,ok_law_letters F_law_letters Z C_law_pick,m_law_letters,F_law_letters.kp,b_law_letters⟩
 have C_law_machine:Cal l.prog w K mg base "_law_machine" 2 _ spMachine:=⟨_,_,ok_law_machine F_law_machine Z C_law_pick,m_law_machine,F_law_machine.kp,b_law_machine⟩
 have C_law_rising_machine:Cal l.prog w K mg base "_law_rising_machine" 2 _ spMachine:=⟨_,_,ok_law_rising_machine F_law_rising_machine Z C_law_pick,m_law_rising_machine,F_law_rising_machine.kp,b_law_rising_machine⟩
 have C_law_some:Cal l.prog w K mg base "_law_some" 3 _ spSome:=⟨_,_,ok_law_some F_law_some Z C_law_pick C_law_letters C_law_machine C_law_rising_machine,m_law_some,F_law_some.kp,b_law_some⟩
 have C_law_least:Cal l.prog w K mg base "_law_least" 1 _ spLLeast:=⟨_,_,ok_law_least F_law_least Z,m_law_least,F_law_least.kp,b_law_least⟩
 have C_law_same_otherwise:Cal l.prog w K mg base "_law_same_otherwise" 2 _ spOther:=⟨_,_,ok_law_same_otherwise F_law_same_otherwise Z C_law_pick,m_law_same_otherwise,F_law_same_otherwise.kp,b_law_same_otherwise⟩
 have C_law_near:Cal l.prog w K mg base "_law_near" 3 _ spNear:=⟨_,_,ok_law_near F_law_near Z C_law_pick C_law_machine C_law_least C_law_same_otherwise,m_law_near,F_law_near.kp,b_law_near⟩
 have C_law_word:Cal l.prog w K mg base "_law_word" 2 _ spWord:=⟨_,_,ok_law_word F_law_word Z C_law_pick,m_law_word,F_law_word.kp,b_law_word⟩
 have CR:∀ base,Cal l.prog w K mg base "room_behind" 1 _ spRoom:=fun base=>⟨_,_,ok_room_behind F_room_behind Z,m_room_behind,F_room_behind.kp,b_room_behind⟩
 have CB:∀ base,Cal l.prog w K mg base "pair_behind" 2 _ spPairB:=fun base=>⟨_,_,ok_pair_behind F_pair_behind Z (CR base),m_pair_behind,F_pair_behind.kp,b_pair_behind⟩
 have C_first_like:Cal l.prog w K mg base "first_like" 1 _ spFL:=⟨_,_,ok_first_like F_first_like Z,m_first_like,F_first_like.kp,b_first_like⟩
 have C_like_rooms:Cal l.prog w K mg base "like_rooms" 2 _ spLike:=⟨_,_,ok_like_rooms F_like_rooms Z C_first_like,m_like_rooms,F_like_rooms.kp,b_like_rooms⟩
 have CM:∀ base,Cal l.prog w K mg base "machine_from" 4 _ (spMF l.prog w K mg base 2):=fun base=>
  have C_walked:Cal l.prog w K mg base "walked" 3 _ (spWk l.prog w K mg base 2):=⟨_,_,ok_walked F_walked Z,m_walked,F_walked.kp,b_walked⟩
  ⟨_,_,ok_machine_from F_machine_from Z C_walked,m_machine_from,F_machine_from.kp,b_machine_from⟩
 have CW:∀ base,Cal l.prog w K mg base "walked" 4 _ (spWkT l.prog w K mg base 3):=fun base=>⟨_,_,ok_walkedT F_walked Z,m_walked,F_walked.kp,b_walked⟩
 have CMT:∀ base,Cal l.prog w K mg base "machine_from" 5 _ (spMFT l.prog w K mg base 3):=fun base=>⟨_,_,ok_machine_fromT F_machine_from Z (CW base),m_machine_from,F_machine_from.kp,b_machine_from⟩
 have C_least0:Cal l.prog w K mg base "least" 5 _ (spLeast P_least):=⟨_,_,ok_least F_least Z h_least CH_least BM C_like_rooms CM CR,m_least,F_least.kp,b_least⟩
 have C_least:Cal l.prog w K mg base "least" 5 _ (spLeastL P_least):=⟨_,_,C_least0.ok.imp leastL_imp,C_least0.at_,C_least0.kp,C_least0.b⟩
 have C_look_fit:Cal l.prog w K mg base "look_fit" 1 _ spFit:=⟨_,_,ok_look_fit F_look_fit Z,m_look_fit,F_look_fit.kp,b_look_fit⟩
 have C_both:Cal l.prog w K mg base "both" 6 _ (spBoth P_both P_least):=⟨_,_,ok_both F_both Z h_both CH_both BM C_look_fit CMT CB C_least,m_both,F_both.kp,b_both⟩
 have C_contrary:Cal l.prog w K mg base "contrary" 6 _ (spContrL P_least):=⟨_,_,(ok_contrary F_contrary Z C_least0).imp contrL_imp,m_contrary,F_contrary.kp,b_contrary⟩
 have C_either:Cal l.prog w K mg base "either" 7 _ (spEither P_both P_least):=⟨_,_,ok_either F_either Z C_contrary C_both,m_either,F_either.kp,b_either⟩
 have C_behind:Cal l.prog w K mg base "behind" 6 _ (spBehindL P_least):=⟨_,_,(ok_behind F_behind Z (CR base) C_least0).imp behindL_imp,m_behind,F_behind.kp,b_behind⟩
 have C_ahead:Cal l.prog w K mg base "ahead" 6 _ (spAheadL P_least):=⟨_,_,(ok_ahead F_ahead Z (CR base) C_least0).imp aheadL_imp,m_ahead,F_ahead.kp,b_ahead⟩
 have C_parting_text:Cal l.prog w K mg base "parting_text" 5 _ (spPart P_parting_text):=⟨_,_,ok_parting_text F_parting_text Z h_parting_text CH_parting_text BM C_look_fit CW CB,m_parting_text,F_parting_text.kp,b_parting_text⟩
 have C_takes:Cal l.prog w K mg base "takes" 2 _ spTakes:=⟨_,_,ok_takes F_takes Z (CR base),m_takes,F_takes.kp,b_takes⟩
 have C_law_joined_right:Cal l.prog w K mg base "_law_joined_right" 8 _ (spJoined P_both P_least):=⟨_,_,ok_law_joined_right F_law_joined_right Z C_contrary C_both C_either C_behind C_ahead,m_law_joined_right,F_law_joined_right.kp,b_law_joined_right⟩
 have C_law_cut_right:Cal l.prog w K mg base "_law_cut_right" 8 _ (spCut P_both P_least):=⟨_,_,ok_law_cut_right F_law_cut_right Z C_contrary C_both C_either C_behind C_ahead,m_law_cut_right,F_law_cut_right.kp,b_law_cut_right⟩
 exact ok_law x_least_parting_text x_least_both x_parting_text_both F_law Z C_law_flow C_law_some C_law_near C_law_word C_law_joined_right C_law_cut_right C_least C_both C_either C_parting_text C_takes C_behind C_ahead
theorem walk {l:PySem.W.OpenLaw} {q:Program} {loose:List Str} {XP:(Str→Option Value)→Heap→Prop} {YP:World→Heap→Prop} {d:DefRec} {K:Params→PySem.W.Frag} (hn:l.most=some 63) (hdf:d.params.defaults=[])
  (hY:∀ (w:World) (h:Heap),YP w h→(K w.params).In h)
  (F:∀ (w:World) (mg:Str→Option Value) (fa:Addr) (h:Heap),(K w.params).In h→h.Ns mainGlobals mg→mg d.name=some (.ref fa)→TabTop q (K w.params) h→
   PySem.W.noTabs (K w.params)=true∧∃ (fd:FuncData) (tabs:List (Addr × Addr)),PySem.W.TabsAt tabs h∧(∀ (s:Shared) (u:Value),BindsTo s fd ⟨[u],[]⟩ [("_law_script",u)])∧∀ base:Heap,(K w.params).In base→base.Ns mainGlobals mg→BltM mg base→FnOk l.prog w (K w.params) mg base CX0 9 fa fd ["_law_script"] (spLawT (K w.params) tabs)) :
  PySem.W.WalkO q loose XP YP l.row.toRowW d [] (fun f vs=>PySem.call f vs):=
 L2.walk_ofT (n:=63) (k:=9) (x:="_law_script") (CX:=fun _=>CX0) (sp:=fun w tabs=>spLawT (K w.params) tabs) hn (by decide) hdf ⟨rfl,by decide,by decide⟩ hY F (fun _ _ _ a ns hl hT hS=>⟨a,ns,rfl,hS,hl,hT,fun _=>rfl⟩) fun _ _ _ _ _ z=>z
end My
open PySem PySem.W PyProof.Rows
set_option maxRecDepth 100000 in
set_option maxHeartbeats 0 in
theorem PySem.Challenge.cw_spreadwords_k26_whole_put_together_and_c_holds : PySem.Challenge.rw_spreadwords_k26_whole_put_together_and_c.Holds := by
 w_on; o_law; k_head; (case hw=>w_witness2)
 k_fill
 refine My.walk (l:=PySem.Challenge.rw_spreadwords_k26_whole_put_together_and_c) rfl rfl (fun w h Y=>PySem.W.km_in_of Y) ?F
 case F=>
  intro w mg fa h KX G hmg TT
  refine' My.all_mk KX G hmg TT ?a1 ?l1 ?c1 ?k1 ?a2 ?l2 ?c2 ?k2 ?a3 ?l3 ?c3 ?k3 ?a4 ?l4 ?c4 ?k4 ?a5 ?l5 ?c5 ?k5 ?a6 ?l6 ?c6 ?k6 ?a7 ?l7 ?c7 ?k7 ?a8 ?l8 ?c8 ?k8 ?a9 ?l9 ?c9 ?k9 ?a10 ?l10 ?c10 ?k10 ?a11 ?l11 ?c11 ?k11 ?a12 ?l12 ?c12 ?k12 ?a13 ?l13 ?c13 ?k13 ?a14 ?l14 ?c14 ?k14 ?a15 ?l15 ?c15 ?k15 ?a16 ?l16 ?c16 ?k16 ?a17 ?l17 ?c17 ?k17 ?a18 ?l18 ?c18 ?k18 ?a19 ?l19 ?c19 ?k19 ?a20 ?l20 ?c20 ?k20 ?a21 ?l21 ?c21 ?k21 ?a22 ?l22 ?c22 ?k22 ?a23 ?l23 ?c23 ?k23 ?a24 ?l24 ?c24 ?k24 ?a25 ?l25 ?c25 ?k25 ?a26 ?l26 ?c26 ?k26 ?a27 ?l27 ?c27 ?k27 ?a28 ?l28 ?c28 ?k28 ?z_enumerate ?z_int ?z_len ?z_list ?z_range ?z_set ?z_sorted ?z_tuple ?n0 ?y_least ?v_least ?u_least ?w_least ?y_parting_text ?v_parting_text ?u_parting_text ?w_parting_text ?y_both ?v_both ?u_both ?w_both ?x_least_parting_text ?x_least_both ?x_parting_text_both
  (case a1=>k_is)
  (case l1=>k_is)
  (case c1=>k_is)
  (case k1=>k_is)
  (case a2=>k_is)
  (case l2=>k_is)
  (case c2=>k_is)
  (case k2=>k_is)
  (case a3=>k_is)
  (case l3=>k_is)
  (case c3=>k_is)
  (case k3=>k_is)
  (case a4=>k_is)
  (case l4=>k_is)
  (case c4=>k_is)
  (case k4=>k_is)
  (case a5=>k_is)
  (case l5=>k_is)
  (case c5=>k_is)
  (case k5=>k_is)
  (case a6=>k_is)
  (case l6=>k_is)
  (case c6=>k_is)
  (case k6=>k_is)
  (case a7=>k_is)
  (case l7=>k_is)
  (case c7=>k_is)
  (case k7=>k_is)
  (case a8=>k_is)
  (case l8=>k_is)
  (case c8=>k_is)
  (case k8=>k_is)
  (case a9=>k_is)
  (case l9=>k_is)
  (case c9=>k_is)
  (case k9=>k_is)
  (case a10=>k_is)
  (case l10=>k_is)
  (case c10=>k_is)
  (case k10=>k_is)
  (case a11=>k_is)
  (case l11=>k_is)
  (case c11=>k_is)
  (case k11=>k_is)
  (case a12=>k_is)
  (case l12=>k_is)
  (case c12=>k_is)
  (case k12=>k_is)
  (case a13=>k_is)
  (case l13=>k_is)
  (case c13=>k_is)
  (case k13=>k_is)
  (case a14=>k_is)
  (case l14=>k_is)
  (case c14=>k_is)
  (case k14=>k_is)
  (case a15=>k_is)
  (case l15=>k_is)
  (case c15=>k_is)
  (case k15=>k_is)
  (case a16=>k_is)
  (case l16=>k_is)
  (case c16=>k_is)
  (case k16=>k_is)
  (case a17=>k_is)
  (case l17=>k_is)
  (case c17=>k_is)
  (case k17=>k_is)
  (case a18=>k_is)
  (case l18=>k_is)
  (case c18=>k_is)
  (case k18=>k_is)
  (case a19=>k_is)
  (case l19=>k_is)
  (case c19=>k_is)
  (case k19=>k_is)
  (case a20=>k_is)
  (case l20=>k_is)
  (case c20=>k_is)
  (case k20=>k_is)
  (case a21=>k_is)
  (case l21=>k_is)
  (case c21=>k_is)
  (case k21=>k_is)
  (case a22=>k_is)
  (case l22=>k_is)
  (case c22=>k_is)
  (case k22=>k_is)
  (case a23=>k_is)
  (case l23=>k_is)
  (case c23=>k_is)
  (case k23=>k_is)
  (case a24=>k_is)
  (case l24=>k_is)
  (case c24=>k_is)
  (case k24=>k_is)
  (case a25=>k_is)
  (case l25=>k_is)
  (case c25=>k_is)
  (case k25=>k_is)
  (case a26=>k_is)
  (case l26=>k_is)
  (case c26=>k_is)
  (case k26=>k_is)
  (case a27=>k_is)
  (case l27=>k_is)
  (case c27=>k_is)
  (case k27=>k_is)
  (case a28=>k_is)
  (case l28=>k_is)
  (case c28=>k_is)
  (case k28=>k_is)
  (case z_enumerate=>k_is)
  (case z_int=>k_is)
  (case z_len=>k_is)
  (case z_list=>k_is)
  (case z_range=>k_is)
  (case z_set=>k_is)
  (case z_sorted=>k_is)
  (case z_tuple=>k_is)
  (case n0=>kernel_rfl)
  (case y_least=>exact rfl)
  (case v_least=>k_is)
  (case u_least=>exact rfl)
  (case w_least=>exact rfl)
  (case y_parting_text=>exact rfl)
  (case v_parting_text=>k_is)
  (case u_parting_text=>exact rfl)
  (case w_parting_text=>exact rfl)
  (case y_both=>exact rfl)
  (case v_both=>k_is)
  (case u_both=>exact rfl)
  (case w_both=>exact rfl)
  (case x_least_parting_text=>decide)
  (case x_least_both=>decide)
  (case x_parting_text_both=>decide)
