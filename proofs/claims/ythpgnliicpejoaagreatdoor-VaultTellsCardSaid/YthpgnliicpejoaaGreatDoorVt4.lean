
import Derived.Test.YthpgnliicpejoaaGreatDoorProg
import Derived.Test.YthpgnliicpejoaaGreatDoorVt3
namespace Go.Proofs.YthpgnliicpejoaaGreatDoor.AM
open Go.RowKit
@[push_cast] theorem tsz_3:tsz Tryz.prog 3=some 1:=by kernel_rfl
@[push_cast] theorem aggD_3:qhj Tryz.prog 3=some false:=by kernel_rfl
@[push_cast] theorem tsz_4:tsz Tryz.prog 4=some 1:=by kernel_rfl
@[push_cast] theorem aggD_4:qhj Tryz.prog 4=some false:=by kernel_rfl
@[push_cast] theorem tzero_4:qdv Tryz.prog 4=some [(.bool false)]:=by kernel_rfl
@[push_cast] theorem elInfo_4:qqg Tryz.prog 4=some (1,1):=by kernel_rfl
@[push_cast] theorem tsz_9:tsz Tryz.prog 9=some 1:=by kernel_rfl
@[push_cast] theorem aggD_9:qhj Tryz.prog 9=some false:=by kernel_rfl
@[push_cast] theorem tzero_9:qdv Tryz.prog 9=some [(.string ⟨#[]⟩)]:=by kernel_rfl
@[push_cast] theorem elInfo_9:qqg Tryz.prog 9=some (1,16):=by kernel_rfl
@[push_cast] theorem tsz_22:tsz Tryz.prog 22=some 1:=by kernel_rfl
@[push_cast] theorem aggD_22:qhj Tryz.prog 22=some false:=by kernel_rfl
@[push_cast] theorem tsz_23:tsz Tryz.prog 23=some 1:=by kernel_rfl
@[push_cast] theorem aggD_23:qhj Tryz.prog 23=some false:=by kernel_rfl
@[push_cast] theorem tsz_25:tsz Tryz.prog 25=some 2:=by kernel_rfl
@[push_cast] theorem aggD_25:qhj Tryz.prog 25=some true:=by kernel_rfl
@[push_cast] theorem tzero_25:qdv Tryz.prog 25=some [(.slice none 0 0),(.slice none 0 0)]:=by kernel_rfl
@[push_cast] theorem jol:q68 Tryz.prog 25 0=some (0,22):=by kernel_rfl
@[push_cast] theorem jqs:q68 Tryz.prog 25 1=some (1,23):=by kernel_rfl
@[push_cast] theorem tsz_67:tsz Tryz.prog 67=some 2:=by kernel_rfl
@[push_cast] theorem tzero_67:qdv Tryz.prog 67=some [(.int .i64 0),(.string ⟨#[]⟩)]:=by kernel_rfl
@[push_cast] theorem jrw:qqg Tryz.prog 67=some (2,24):=by kernel_rfl
@[push_cast] theorem jon:q68 Tryz.prog 67 0=some (0,3):=by kernel_rfl
@[push_cast] theorem jp6:q68 Tryz.prog 67 1=some (1,9):=by kernel_rfl
@[push_cast] theorem tsz_99:tsz Tryz.prog 99=some 3:=by kernel_rfl
@[push_cast] theorem jpt:q68 Tryz.prog 99 0=some (0,4):=by kernel_rfl
@[push_cast] theorem jp8:q68 Tryz.prog 99 1=some (1,3):=by kernel_rfl
@[push_cast] theorem jnd:q68 Tryz.prog 99 2=some (2,9):=by kernel_rfl
@[push_cast] theorem layT_25:jsq Tryz.prog 25=some [(0,1),(1,1)]:=by kernel_rfl
@[push_cast] theorem layT_67:jsq Tryz.prog 67=some [(0,1),(1,1)]:=by kernel_rfl
attribute [push_cast] Tryz.underlying1 Tryz.underlying2 Tryz.underlying3 Tryz.underlying4 Tryz.underlying5 Tryz.underlying6 Tryz.underlying9 Tryz.underlying10 Tryz.underlying11 Tryz.underlying12 Tryz.underlying13 Tryz.underlying21 Tryz.underlying22 Tryz.underlying23 Tryz.underlying24 Tryz.underlying25 Tryz.underlying26 Tryz.underlying27 Tryz.underlying28 Tryz.underlying29 Tryz.underlying30 Tryz.underlying31 Tryz.underlying32 Tryz.underlying33 Tryz.underlying35 Tryz.underlying36 Tryz.underlying38 Tryz.underlying39 Tryz.underlying41 Tryz.underlying42 Tryz.underlying43 Tryz.underlying44 Tryz.underlying45 Tryz.underlying46 Tryz.underlying47 Tryz.underlying48 Tryz.underlying50 Tryz.underlying51 Tryz.underlying52 Tryz.underlying53 Tryz.underlying55 Tryz.underlying57 Tryz.underlying58 Tryz.underlying59 Tryz.underlying60 Tryz.underlying62 Tryz.underlying63 Tryz.underlying64 Tryz.underlying65 Tryz.underlying66 Tryz.underlying67 Tryz.underlying68 Tryz.underlying69 Tryz.underlying70 Tryz.underlying71 Tryz.underlying72 Tryz.underlying73 Tryz.underlying74 Tryz.underlying75 Tryz.underlying76 Tryz.underlying77 Tryz.underlying78 Tryz.underlying79 Tryz.underlying83 Tryz.underlying84 Tryz.underlying85 Tryz.underlying87 Tryz.underlying89 Tryz.underlying90 Tryz.underlying91 Tryz.underlying92 Tryz.underlying93 Tryz.underlying94 Tryz.underlying95 Tryz.underlying96 Tryz.underlying97 Tryz.underlying98 Tryz.underlying99 Tryz.underlying100 Tryz.underlying102 Tryz.underlying103 Tryz.underlying104 Tryz.underlying105 Tryz.underlying106 Tryz.underlying107 Tryz.underlying108 Tryz.underlying109 Tryz.underlying110 Tryz.underlying111 Tryz.underlying112 Tryz.underlying113 Tryz.underlying114 Tryz.underlying116 Tryz.underlying118 Tryz.underlying119 Tryz.underlying120 Tryz.underlying121 Tryz.underlying122 Tryz.underlying123 Tryz.underlying125 Tryz.underlying127 Tryz.underlying128 Tryz.underlying129 Tryz.underlying133 Tryz.underlying134 Tryz.underlying136 Tryz.underlying137 Tryz.underlying138 Tryz.underlying139 Tryz.underlying140 Tryz.underlying141 Tryz.underlying142 Tryz.underlying143 Tryz.underlying144 Tryz.underlying145 Tryz.underlying146 Tryz.underlying148 Tryz.underlying149 Tryz.underlying150 Tryz.underlying151 Tryz.underlying152 Tryz.underlying153 Tryz.underlying155 Tryz.underlying157 Tryz.underlying164 Tryz.underlying168 Tryz.underlying169 Tryz.underlying171 Tryz.underlying173 Tryz.underlying174 Tryz.underlying175 Tryz.underlying176 Tryz.underlying177 Tryz.underlying178 Tryz.underlying179 Tryz.underlying180 Tryz.underlying182 Tryz.underlying183 Tryz.underlying184 Tryz.underlying185 Tryz.underlying186 Tryz.underlying187 Tryz.underlying189 Tryz.underlying190 Tryz.underlying191 Tryz.underlying192 Tryz.underlying193 Tryz.underlying194 Tryz.underlying195 Tryz.underlying204 Tryz.underlying206 Tryz.underlying208 Tryz.underlying209 Tryz.underlying210 Tryz.underlying211 Tryz.underlying212 Tryz.underlying213 Tryz.underlying216 Tryz.underlying219 Tryz.underlying221 Tryz.underlying222 Tryz.underlying223 Tryz.underlying224 Tryz.underlying226 Tryz.underlying227 Tryz.underlying229 Tryz.underlying230 Tryz.underlying231 Tryz.underlying233 Tryz.underlying234 Tryz.underlying236 Tryz.underlying237 Tryz.underlying239 Tryz.underlying240 Tryz.underlying242 Tryz.underlying243 Tryz.underlying244 Tryz.underlying245 Tryz.underlying246 Tryz.underlying249 Tryz.underlying250 Tryz.underlying257 Tryz.underlying259 Tryz.underlying260 Tryz.underlying263 Tryz.underlying269 Tryz.underlying273 Tryz.underlying276
end Go.Proofs.YthpgnliicpejoaaGreatDoor.AM
namespace Go.Proofs.YthpgnliicpejoaaGreatDoor
namespace SM
def step (p:Int×Int) (c:UInt8):Int×Int:=((p.1+(p.2+c.toNat) % 65521) % 65521,(p.2+c.toNat) % 65521)
def steps (p:Int×Int) (l:List UInt8):Int×Int:=l.foldl step p
def Ok (p:Int×Int):Prop:=0<=p.1/\p.1<65521/\0<=p.2/\p.2<65521
def q2p (n:Int):Prop:=0<=n/\n / 65536<65521/\n % 65536<65521
instance (n:Int):Decidable (q2p n):=by unfold q2p;exact inferInstance
def q1d (n:Int) (l:List UInt8):Int:=if q2p n then (steps (n / 65536,n % 65536) l).1*65536+(steps (n / 65536,n % 65536) l).2 else 0
theorem step_ok {p:Int×Int} (c:UInt8):Ok (step p c):=by
 unfold step Ok;simp only;omega
theorem qs9 {p:Int×Int} (l:List UInt8) (h:Ok p):Ok (steps p l):=by
 induction l generalizing p with
 | nil=>exact h
 | cons c l ih=>exact ih (step_ok c)
theorem qv1 (p:Int×Int) (l m:List UInt8):steps p (l++m)=steps (steps p l) m:=by
 unfold steps;rw [List.foldl_append]
theorem qaa (p:Int×Int) (l:List UInt8) (c:UInt8):steps p (l ++ [c])=step (steps p l) c:=by
 rw [qv1];rfl
theorem qci {n:Int} (h:q2p n):Ok (n / 65536,n % 65536):=by
 unfold q2p at h;unfold Ok;simp only;omega
theorem j2v {p:Int×Int} (h:Ok p):q2p (p.1*65536+p.2):=by
 unfold Ok at h;unfold q2p;omega
theorem qef (s:ByteArray) (k:Nat) (h:k<s.size):s.data.toList.take (k+1)=s.data.toList.take k ++ [s[k]]:=by
 rw [List.take_succ_eq_append_getElem (by simpa using h)];rfl
theorem jhg:q2p 1:=by decide
theorem j57 {n:Int} (h:q2p n):0<=n/\n<4294967296:=by unfold q2p at h;omega
theorem qan (n:Int) (l:List UInt8):q2p (q1d n l):=by
 unfold q1d
 split
 ·rename_i h;exact j2v (qs9 l (qci h))
 ·decide
theorem qtd (n:Int) (l:List UInt8):0<=q1d n l/\q1d n l<4294967296:=by
 have:=qan n l;unfold q2p at this;omega
def S:List UInt8->Int
 | []=>0
 | c::l=>c.toNat+S l
def W:List UInt8->Int
 | []=>0
 | c::l=>(l.length+1)*c.toNat+W l
end SM
end Go.Proofs.YthpgnliicpejoaaGreatDoor
