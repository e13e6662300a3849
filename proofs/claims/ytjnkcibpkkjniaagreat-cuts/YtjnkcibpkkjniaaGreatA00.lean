set_option linter.all false
namespace Go.Proofs.YtjnkcibpkkjniaaGreat
def dW:=@Option.some.injEq
def eE:=@Option.getD_some
def fb:=@Nat.eq_zero_or_pos
end Go.Proofs.YtjnkcibpkkjniaaGreat
